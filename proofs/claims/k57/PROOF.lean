import PyProof.Rows.All
import Wide.All
import OpenK.AllK
import Wide.FinOn
import KE.KStateDown
import Lean
import HandS.ForMost
import HandS.Wide
import HandS.FStr
import HandS.IsInst
import HandS.Flow
import HandS.Style
import HandS.Zip
import HandS.Conv
import HandS.Defaults
import HandS.Walk
import HandS.More
import HandS.WordsExc
import HandS.Head0
import HandS.Head1
import HandS.Head2
import HandS.HeadEnd
import HandS.HeadHook1
import HandS.HeadHook2
import HandS.TupAny
import HandS.Hot
import HandS.Comp
import HandS.ExcCtx
import HandS.HotCalls
import HandS.TryMany
import HandS.ExcIs
import HandS.Lambda
import HandS.EndTab
import HandS.HeadHook3
import HandS.HeadHook4
import HandS.HeadWalk
import HandS.WideBits
import HandS.TryOnly
import HandS.ExcSuper
import HandS.ExcInit
import KE.KSuper
import HandS.ExcOwn
import HandS.CallSlots
import HandS.ExcField
import HandS.Codes
import HandS.Strs
import HandS.SetFor
import HandS.SortInts
import PyProof.Rows.SetFrom
import KE.GoesMore
import HandS.Iter
import HandS.MakeKw
import HandS.OwnEq
import HandS.TupMul
import KE.KCallOwn
import KE.KExcSuper
import HandS.FStrTup
import PyProof.ReprRoads
import PyProof.ReprNest
import HandS.Deep
import HandS.Base
import HandS.StrMore
import HandS.Dict
import PySem.Challenge.RW_fewmirrors_k57_forms_read
set_option Elab.async false
set_option linter.all false
set_option maxRecDepth 100000
set_option maxHeartbeats 4000000
namespace Fm
open PySem PySem.Spec PyProof.Rows L2
def CDivZ (i j : Int) : Prop := j ≠ 0 ∧ Builtin.divisionGoesByPylong i j = false
theorem op_fdivZ {X : Cx} : OpR X (binaryOp .FloorDiv) (rI CDivZ fun i j => .int (i.fdiv j)) := opI fun _ _ _ _ _ _ _ hc q => floordiv_int hc.1 q (.inl hc.2)
theorem divZ_small {i j : Int} (h : 0 < j) (h2 : j < 4294967296) : CDivZ i j := ⟨by omega, PyProof.noPylong_of_log2 <| Nat.lt_of_lt_of_le (PySem.Flt.log2_lt_of (n := j.natAbs) (k := 32) (by decide) (by omega)) (by decide)⟩
theorem divZ_of {i j : Int} {b : Nat} (h : j ≠ 0) (hb : j.natAbs < 2 ^ b) (h0 : 0 < b) (h9 : b ≤ 9000) : CDivZ i j := ⟨h, PyProof.noPylong_of_log2 <| Nat.lt_of_lt_of_le (PySem.Flt.log2_lt_of h0 hb) h9⟩
theorem fmod_pos (a : Int) {b : Int} (h : 0 < b) : a.fmod b = a % b := Int.fmod_eq_emod_of_nonneg a (by omega)
theorem fdiv_pos (a : Int) {b : Int} (h : 0 < b) : a.fdiv b = a / b := Int.fdiv_eq_ediv_of_nonneg a (by omega)
abbrev FnP (K : PySem.W.Frag) (x : Str) (st : Stmt) (f : Addr) (fd : FuncData) : Prop := FunD K x x (defArgs st) (defBody st) (defScope st) [] [] f fd
/-! ### steps of a reading -/
section
variable {K : PySem.W.Frag} {σ : L2.St} {H : Hp} {Q : VK} {ta tb tc te : TE} {t u : TS} {D : Ends} {g : TG} {i : Nat} {v x y : V} {c : TT} {r : R2} {cA cB : TT} {as : TA}
theorem w_var (h : σ[i]? = some (some v)) (q : Q v H) : tVar i σ H Q := ⟨v, h, q⟩
theorem w_c (q : Q v H) : tC v σ H Q := q
theorem w_seq (h : t { D with nx := u D } σ H) : tSeq t u D σ H := h
theorem w_next (h : D.nx σ H) : tNext D σ H := h
theorem w_asg (h : te σ H fun x H1 => g x σ H1 D.nx) : tAsg te g D σ H := h
theorem w_ret (h : te σ H D.rt) : tRet te D σ H := h
theorem w_drop (h : te σ H fun _ H1 => D.nx σ H1) : tDrop te D σ H := h
theorem w_ifs (h : c σ H fun b H1 => if b = true then t D σ H1 else u D σ H1) : tIfS c t u D σ H := h
theorem w_op (h : ta σ H fun x H1 => tb σ H1 fun y H2 => r x y H2 Q) : tOp r ta tb σ H Q := h
theorem w_un {r : V → Hp → VK → Prop} (h : ta σ H fun x H1 => r x H1 Q) : tUn r ta σ H Q := h
theorem w_name {R : L2.St → Hp → Prop} (h : R (σ.set i (some v)) H) : gName i v σ H R := h
theorem w_sub {to ti : TE} {ts : TSet} {R : L2.St → Hp → Prop} (h : to σ H fun o H1 => ti σ H1 fun i H2 => ts o i v H2 fun H3 => R σ H3) : gSub to ti ts v σ H R := h
theorem w_test {R : Bool → Hp → Prop} (h : te σ H fun x H' => ∃ k, x = .bl k ∧ R k H') : tTest te σ H R := h
theorem w_B {R : Bool → Hp → Prop} (h : te σ H fun x H' => ∃ k, x = .bl k ∧ R k H') : tB te σ H R := h
theorem w_exb {b : Bool} {R : Bool → Prop} (h : R b) : ∃ k, V.bl b = .bl k ∧ R k := ⟨b, rfl, h⟩
theorem w_and {R : Bool → Hp → Prop} (h : cA σ H fun c H1 => if c = true then cB σ H1 R else R false H1) : tAnd cA cB σ H R := h
theorem w_or {R : Bool → Hp → Prop} (h : cA σ H fun c H1 => if c = true then R true H1 else cB σ H1 R) : tOr cA cB σ H R := h
theorem w_not {R : Bool → Hp → Prop} (h : cA σ H fun c H1 => R (!c) H1) : tNot cA σ H R := h
theorem w_andV (h : ta σ H fun x H1 => ∃ c, x = .bl c ∧ if c = true then tb σ H1 Q else Q (.bl false) H1) : tAndV ta tb σ H Q := h
theorem w_orV (h : ta σ H fun x H1 => ∃ c, x = .bl c ∧ if c = true then Q (.bl true) H1 else tb σ H1 Q) : tOrV ta tb σ H Q := h
theorem w_notV (h : ta σ H fun x H1 => ∃ c, x = .bl c ∧ Q (.bl (!c)) H1) : tNotV ta σ H Q := h
theorem w_if (h : c σ H fun b H1 => if b = true then ta σ H1 Q else tb σ H1 Q) : tIf c ta tb σ H Q := h
theorem w_I0 {g : Int → Int → V} {a b : Int} (q : Q (g a b) H) : rI0 g (.int a) (.int b) H Q := ⟨a, b, rfl, rfl, q⟩
theorem w_I {C : Int → Int → Prop} {g : Int → Int → V} {a b : Int} (hc : C a b) (q : Q (g a b) H) : rI C g (.int a) (.int b) H Q := ⟨a, b, rfl, rfl, hc, q⟩
theorem w_U {g : Int → V} {a : Int} (q : Q (g a) H) : rU g (.int a) H Q := ⟨a, rfl, q⟩
theorem w_eqI {a b : Int} (q : Q (.bl (decide (a = b))) H) : rEq (.int a) (.int b) H Q := ⟨rfl, by
  have e : decide (V.int a = V.int b) = decide (a = b) := by
    by_cases h : a = b
    · rw [decide_eq_true h, decide_eq_true (by rw [h])]
    · rw [decide_eq_false h, decide_eq_false (fun z => h (V.int.inj z))]
  rw [e]
  exact q⟩
theorem w_neI {a b : Int} (q : Q (.bl (!decide (a = b))) H) : rNe (.int a) (.int b) H Q := ⟨rfl, by
  have e : decide (V.int a = V.int b) = decide (a = b) := by
    by_cases h : a = b
    · rw [decide_eq_true h, decide_eq_true (by rw [h])]
    · rw [decide_eq_false h, decide_eq_false (fun z => h (V.int.inj z))]
  rw [e]
  exact q⟩
theorem w_nil {R : List V → Hp → Prop} (h : R [] H) : tNil σ H R := h
theorem w_cons {R : List V → Hp → Prop} (h : ta σ H fun x H1 => as σ H1 fun xs H2 => R (x :: xs) H2) : tCons ta as σ H R := h
def NewO (o : HO) (H : Hp) (Q : VK) : Prop := ∀ p, H p = none → Q (.ref p) (upd H p o)
def NewS (mk : List V → HO) (xs : List V) (H : Hp) (Q : VK) : Prop := xs.length ≤ sizeLine ∧ NewO (mk xs) H Q
theorem w_tup (h : as σ H fun xs H1 => NewS .tup xs H1 Q) : tTup as σ H Q := h
theorem w_lst (h : as σ H fun xs H1 => NewS .lst xs H1 Q) : tLst as σ H Q := h
theorem w_for {wi : TI} {tb : TS} (hh : wi σ H fun it h1 => ∃ Inv : Nat → Nat → L2.St → Hp → Prop, (∃ left, Inv 0 left σ h1) ∧ ∀ turn left slots hp, Inv turn left slots hp →
    (it.stop turn hp ∧ D.nx slots hp) ∨ (it.go turn hp ∧ ∃ Nxt : L2.St → Hp → Prop, (∀ slots' hp', Nxt slots' hp' → ∃ left', left' < left ∧ Inv (turn + 1) left' slots' hp') ∧
      ∀ item hp', it.yld turn hp item hp' → g item slots hp' fun slots2 h2 => tb { D with nx := Nxt, ct := Nxt, bk := D.nx } slots2 h2)) : tFor wi g tb D σ H := hh
theorem w_rng1 {ta : TA} {R : It → Hp → Prop} (h : ta σ H fun vs H1 => ∃ j : Int, vs = [.int j] ∧ -(2 ^ 62) ≤ j ∧ j < 2 ^ 62 ∧ R (Itr 0 j.toNat) H1) : iRng1 ta σ H R := h
theorem same_upd {p : Addr} {o : HO} (h : H p = none) : Same H (upd H p o) := fun b x e => by
  rw [upd_ne (ne_of_none e h)]
  exact e
theorem w_new {mk : List V → HO} {xs : List V} (hz : xs.length ≤ 1000) (h : ∀ p H', H p = none → Same H H' → H' p = some (mk xs) → Q (.ref p) H') : NewS mk xs H Q := ⟨Nat.le_of_lt (small1000 hz), fun p hp => h p _ hp (same_upd hp) upd_same⟩
theorem w_newO {o : HO} (h : ∀ p H', H p = none → Same H H' → H' p = some o → Q (.ref p) H') : NewO o H Q := fun p hp => h p _ hp (same_upd hp) upd_same
theorem w_cb {r : List V → Hp → VK → Prop} (h : as σ H fun vs H1 => r vs H1 Q) : tCB r as σ H Q := h
theorem w_call {sp : Sp} {dvs : List V} {E : XK} (h : as σ H fun vs H1 => sp (vs ++ dvs) H1 Q E) : tCall sp dvs E as σ H Q := h
theorem w_ixL {p : Addr} {xs : List V} {i : Int} (h : H p = some (.lst xs)) (e : atI xs i = some v) (q : Q v H) : rIxL K (.ref p) (.int i) H Q := ⟨p, xs, i, v, rfl, rfl, SqL.of h, e, q⟩
theorem w_ixLs {p : Addr} {xs : List V} {i : Int} (h : SqL K H p xs) (e : atI xs i = some v) (q : Q v H) : rIxL K (.ref p) (.int i) H Q := ⟨p, xs, i, v, rfl, rfl, h, e, q⟩
theorem w_ixT {p : Addr} {xs : List V} {i : Int} (h : H p = some (.tup xs)) (e : atI xs i = some v) (q : Q v H) : rIxT K (.ref p) (.int i) H Q := ⟨p, xs, i, v, rfl, rfl, SqT.of h, e, q⟩
theorem w_setL {p : Addr} {xs : List V} {k : Int} {j : Nat} {R : Hp → Prop} (h : H p = some (.lst xs)) (e : ixN xs.length k = some j) (q : R (upd H p (.lst (xs.set j v)))) : rSetL (.ref p) (.int k) v H R := ⟨p, xs, k, j, rfl, rfl, h, e, q⟩
theorem w_par {i j : Nat} (h : as σ H fun vs H1 => ∃ v w, vs = [v, w] ∧ D.nx ((σ.set i (some v)).set j (some w)) H1) : tPar i j as D σ H := h
theorem w_ex2 {a b : V} {R : V → V → Prop} (h : R a b) : ∃ v w, [a, b] = [v, w] ∧ R v w := ⟨a, b, rfl, h⟩
theorem w_ite {p : Prop} [Decidable p] {A B : Prop} (h1 : p → A) (h2 : ¬ p → B) : if decide p = true then A else B := by
  by_cases h : p
  · rw [decide_eq_true h]; exact h1 h
  · rw [decide_eq_false h]; exact h2 h
theorem w_iteN {p : Prop} [Decidable p] {A B : Prop} (h1 : ¬ p → A) (h2 : p → B) : if (!decide p) = true then A else B := by
  by_cases h : p
  · rw [decide_eq_true h]; exact h2 h
  · rw [decide_eq_false h]; exact h1 h
theorem w_t {A B : Prop} (h : A) : if true = true then A else B := h
theorem w_f {A B : Prop} (h : B) : if false = true then A else B := h
end
section
variable {K : PySem.W.Frag} {σ : L2.St} {H : Hp} {Q : VK} {te : TE} {g : TG} {tt : TT} {vs : List Nat}
theorem w_lc {wi : TI} (hh : wi σ H fun it h1 => ∀ new, h1 new = none → ∃ Inv : Nat → Nat → Hp → Prop, (∃ left, Inv 0 left (upd h1 new (.lst []))) ∧ ∀ turn left hp, Inv turn left hp →
    (it.stop turn hp ∧ Q (.ref new) hp) ∨ (it.go turn hp ∧ ∃ Nxt : Hp → Prop, (∀ hp', Nxt hp' → ∃ left', left' < left ∧ Inv (turn + 1) left' hp') ∧
      ∀ item hp', it.yld turn hp item hp' → g item (wipe σ vs) hp' fun slots h2 => wipe slots vs = wipe σ vs ∧ tt slots h2 fun kept h3 =>
        if kept = true then te slots h3 fun made h4 => ∃ sofar, h4 new = some (.lst sofar) ∧ sofar.length < sizeLine ∧ Nxt (upd h4 new (.lst (sofar ++ [made]))) else Nxt h3)) : tLc wi g tt te vs σ H Q := hh
theorem w_yes {R : Bool → Hp → Prop} (h : R true H) : tYes σ H R := h
theorem w_zipA {ta : TA} {R : It → Hp → Prop} (h : ta σ H fun vs H1 => ∃ a b xs ys, vs = [.ref a, .ref b] ∧ ((SqL K H1 a xs ∧ SqL K H1 b ys ∧ R (Itz K a b) H1) ∨ (SqT K H1 a xs ∧ SqT K H1 b ys ∧ R (RZ.ItzT K a b) H1))) : RZ.iZipA K ta σ H R := h
theorem w_itup {tl : TE} {R : It → Hp → Prop} (h : tl σ H fun x H1 => ∃ a, x = .ref a ∧ (∃ xs, SqT K H1 a xs) ∧ R (Itt K a) H1) : iTup K tl σ H R := h
theorem w_ilist {tl : TE} {R : It → Hp → Prop} (h : tl σ H fun x H1 => ∃ a, x = .ref a ∧ (∃ xs, SqL K H1 a xs) ∧ R (Itl K a) H1) : iList K tl σ H R := h
theorem w_gtup {n : Nat} {t : TGs} {a : Addr} {xs : List V} {R : L2.St → Hp → Prop} (h : H a = some (.tup xs)) (hn : xs.length = n) (q : t xs σ H R) : gTup K n t (.ref a) σ H R := ⟨a, xs, rfl, SqT.of h, hn, q⟩
theorem w_gcons {t : TG} {u : TGs} {v : V} {r : List V} {R : L2.St → Hp → Prop} (h : t v σ H fun σ' H' => u r σ' H' R) : gCons t u (v :: r) σ H R := ⟨v, r, rfl, h⟩
theorem w_gnil {R : L2.St → Hp → Prop} (h : R σ H) : gNil [] σ H R := ⟨rfl, h⟩
end
theorem walk_zipT {K : PySem.W.Frag} {a b : Addr} {xs ys : List V} {n : Nat} (hn : n = min xs.length ys.length) : Walk (RZ.ItzT K a b) n (fun H => SqT K H a xs ∧ SqT K H b ys) (YPair (fun i => xs[i]?) (fun i => ys[i]?)) where
  goes := fun turn hp ht both => by
    have lx : turn < xs.length := by omega
    have ly : turn < ys.length := by omega
    exact ⟨xs, ys, _, _, both.1, both.2, List.getElem?_eq_getElem lx, List.getElem?_eq_getElem ly⟩
  stops := fun hp both => ⟨xs, ys, both.1, both.2, by omega⟩
  yields := fun turn hp v hp' ht both got => by
    obtain ⟨pair, one, two, e1, e2, e3, f1, f2⟩ := got
    exact ⟨pair, one, two, e1, e2, e3, f1 _ both.1, f2 _ both.2⟩
section
variable {H : Hp} {Q : VK}
theorem w_e1 {a : Int} {R : Int → Prop} (h : R a) : ∃ i, [V.int a] = [V.int i] ∧ R i := ⟨a, rfl, h⟩
theorem w_e2 {a b : Int} {R : Int → Int → Prop} (h : R a b) : ∃ i j, [V.int a, V.int b] = [V.int i, V.int j] ∧ R i j := ⟨a, b, rfl, h⟩
theorem w_Iv {C : Int → Int → Prop} {g : Int → Int → V} {a b : Int} {z : V} (hc : C a b) (e : g a b = z) (q : Q z H) : rI C g (.int a) (.int b) H Q := ⟨a, b, rfl, rfl, hc, by
  rw [e]
  exact q⟩
end
/-! ### heaps -/
def Mv (b : Addr) (H H' : Hp) : Prop := ∀ p o, p ≠ b → H p = some o → H' p = some o
def Kt (H H' : Hp) : Prop := ∀ p xs, H p = some (.tup xs) → H' p = some (.tup xs)
theorem Kt.refl (H : Hp) : Kt H H := fun _ _ h => h
theorem Kt.trans {H H1 H2 : Hp} (a : Kt H H1) (b : Kt H1 H2) : Kt H H2 := fun p xs h => b p xs (a p xs h)
theorem Kt.of {H H' : Hp} (s : Same H H') : Kt H H' := fun p xs h => s p _ h
theorem Mv.refl (b : Addr) (H : Hp) : Mv b H H := fun _ _ _ h => h
theorem Mv.trans {b : Addr} {H H1 H2 : Hp} (m1 : Mv b H H1) (m2 : Mv b H1 H2) : Mv b H H2 := fun p o n h => m2 p o n (m1 p o n h)
theorem Mv.same {b : Addr} {H H1 : Hp} (s : Same H H1) : Mv b H H1 := fun p o _ h => s p o h
theorem Mv.upd {b : Addr} {H : Hp} {o : HO} : Mv b H (upd H b o) := fun p u n h => by
  rw [upd_ne n]
  exact h
def Bag (H : Hp) (b : Addr) : Prop := ∃ A B : Int, H b = some (.lst [.int A, .int B]) ∧ 0 ≤ A ∧ 0 ≤ B ∧ B < 2147483647
theorem Mv.kt {b : Addr} {H H' : Hp} (m : Mv b H H') (hb : Bag H b) : Kt H H' := fun p xs h => m p _ (fun e => by
  subst e
  obtain ⟨A, B, h2, _⟩ := hb
  rw [h] at h2
  cases h2) h
theorem Bag.same {b : Addr} {H H' : Hp} (hb : Bag H b) (s : Same H H') : Bag H' b := by
  obtain ⟨A, B, h, r⟩ := hb
  exact ⟨A, B, s _ _ h, r⟩
/-- a number: a tuple of two whole numbers, of less than k bits, the second not 0 -/
def NumB (H : Hp) (v : V) (k : Nat) : Prop := ∃ (p : Addr) (x y : Int), v = .ref p ∧ H p = some (.tup [.int x, .int y]) ∧ x.natAbs < 2 ^ k ∧ y.natAbs < 2 ^ k ∧ y ≠ 0
theorem NumB.kt {H H' : Hp} {v : V} {k : Nat} (h : NumB H v k) (s : Kt H H') : NumB H' v k := by
  obtain ⟨p, x, y, e, hp, r⟩ := h
  exact ⟨p, x, y, e, s _ _ hp, r⟩
theorem NumB.mono {H : Hp} {v : V} {k l : Nat} (h : NumB H v k) (hl : k ≤ l) : NumB H v l := by
  obtain ⟨p, x, y, e, hp, h1, h2, h3⟩ := h
  exact ⟨p, x, y, e, hp, Nat.lt_of_lt_of_le h1 (Nat.pow_le_pow_right (by decide) hl), Nat.lt_of_lt_of_le h2 (Nat.pow_le_pow_right (by decide) hl), h3⟩
theorem Kt.updL {H : Hp} {D : Addr} {xs : List V} {o : HO} (h : H D = some (.lst xs)) : Kt H (upd H D o) := fun p ys hp => by
  have n : p ≠ D := fun e => by
    subst e
    rw [h] at hp
    cases hp
  rw [upd_ne n]
  exact hp
theorem bag_ne {H : Hp} {b p : Addr} (hb : Bag H b) (hp : H p = none) : p ≠ b := fun e => by
  subst e
  obtain ⟨A, B, h2, _⟩ := hb
  rw [hp] at h2
  cases h2
theorem Bag.upd {H : Hp} {b D : Addr} {o : HO} (hb : Bag H b) (n : D ≠ b) : Bag (upd H D o) b := by
  obtain ⟨A, B, h, r⟩ := hb
  exact ⟨A, B, (upd_ne n.symm).trans h, r⟩
theorem Mv.updD {b D : Addr} {H H' : Hp} {o : HO} (m : Mv b H H') (hD : H D = none) : Mv b H (L2.upd H' D o) := fun p u n h => by
  rw [upd_ne (ne_of_none h hD)]
  exact m p u n h
theorem Same.updD {D : Addr} {H H' : Hp} {o : HO} (m : Same H H') (hD : H D = none) : Same H (L2.upd H' D o) := fun p u h => by
  rw [upd_ne (ne_of_none h hD)]
  exact m p u h
/-- a row of n numbers -/
def RowB (H : Hp) (v : V) (n k : Nat) : Prop := ∃ (p : Addr) (xs : List V), v = .ref p ∧ H p = some (.tup xs) ∧ xs.length = n ∧ ∀ x ∈ xs, NumB H x k
theorem RowB.kt {H H' : Hp} {v : V} {n k : Nat} (h : RowB H v n k) (s : Kt H H') : RowB H' v n k := by
  obtain ⟨p, xs, e, hp, hl, r⟩ := h
  exact ⟨p, xs, e, s _ _ hp, hl, fun x hx => (r x hx).kt s⟩
theorem RowB.mono {H : Hp} {v : V} {n k l : Nat} (h : RowB H v n k) (hl : k ≤ l) : RowB H v n l := by
  obtain ⟨p, xs, e, hp, hn, r⟩ := h
  exact ⟨p, xs, e, hp, hn, fun x hx => (r x hx).mono hl⟩
/-- a table -/
def TabB (H : Hp) (v : V) (m n k : Nat) : Prop := ∃ (p : Addr) (xs : List V), v = .ref p ∧ H p = some (.tup xs) ∧ xs.length = m ∧ ∀ x ∈ xs, RowB H x n k
theorem TabB.kt {H H' : Hp} {v : V} {m n k : Nat} (h : TabB H v m n k) (s : Kt H H') : TabB H' v m n k := by
  obtain ⟨p, xs, e, hp, hl, r⟩ := h
  exact ⟨p, xs, e, s _ _ hp, hl, fun x hx => (r x hx).kt s⟩
/-! ### the number of two whole numbers -/
def lowI (g u d : Int) : Option Nat := if 0 < g then (List.range g.toNat).find? (fun i => decide (((i : Int) * d).fmod g = u.fmod g)) else none
def lowC (u d : Int) : Int := (Int.gcd u d : Int) * (if d < 0 then -1 else 1)
def lowF (g u d : Int) : Int × Int := match lowI g u d with
  | some i => ((i : Int), 1)
  | none => (u.fdiv (lowC u d), d.fdiv (lowC u d))
theorem lowC_ne {u d : Int} (h : d ≠ 0) : lowC u d ≠ 0 := by
  have h1 : Int.gcd u d ≠ 0 := fun z => h (Int.gcd_eq_zero_iff.mp z).2
  unfold lowC
  split <;> omega
theorem lowC_dvd {u d : Int} : (∃ q, u = lowC u d * q) ∧ ∃ q, d = lowC u d * q := by
  obtain ⟨q1, e1⟩ := Int.gcd_dvd_left u d
  obtain ⟨q2, e2⟩ := Int.gcd_dvd_right u d
  unfold lowC
  split
  · refine ⟨⟨-q1, ?_⟩, ⟨-q2, ?_⟩⟩
    · rw [Int.mul_assoc, Int.neg_mul_neg, Int.one_mul]; exact e1
    · rw [Int.mul_assoc, Int.neg_mul_neg, Int.one_mul]; exact e2
  · refine ⟨⟨q1, ?_⟩, ⟨q2, ?_⟩⟩
    · rw [Int.mul_one]; exact e1
    · rw [Int.mul_one]; exact e2
theorem natAbs_fac {c q : Int} (h : c ≠ 0) : q.natAbs ≤ (c * q).natAbs := by
  rw [Int.natAbs_mul]
  have : 1 ≤ c.natAbs := by omega
  exact Nat.le_mul_of_pos_left _ this
theorem lowC_le {u d : Int} (h : d ≠ 0) : (lowC u d).natAbs ≤ d.natAbs := by
  obtain ⟨_, q, e⟩ := lowC_dvd (u := u) (d := d)
  have hq : q ≠ 0 := fun z => h (by rw [e, z, Int.mul_zero])
  have : (lowC u d).natAbs ≤ (lowC u d * q).natAbs := by
    rw [Int.mul_comm]; exact natAbs_fac hq
  rw [← e] at this
  exact this
theorem low_bd {g u d : Int} {k : Nat} (hg : g ≤ 13) (hd : d ≠ 0) (hk : 4 ≤ k) (h1 : u.natAbs < 2 ^ k) (h2 : d.natAbs < 2 ^ k) : (lowF g u d).1.natAbs < 2 ^ k ∧ (lowF g u d).2.natAbs < 2 ^ k ∧ (lowF g u d).2 ≠ 0 := by
  have hk16 : 16 ≤ 2 ^ k := Nat.le_trans (by decide : 16 ≤ 2 ^ 4) (Nat.pow_le_pow_right (by decide) hk)
  unfold lowF
  cases e : lowI g u d with
  | some i =>
    have hi : i < 13 := by
      unfold lowI at e
      split at e
      · have := List.mem_of_find?_eq_some e
        have := List.mem_range.mp this
        omega
      · cases e
    refine ⟨?_, ?_, fun z => absurd (show (1 : Int) = 0 from z) (by decide)⟩
    · show ((i : Int)).natAbs < 2 ^ k
      omega
    · show (1 : Int).natAbs < 2 ^ k
      omega
  | none =>
    have hc := lowC_ne (u := u) hd
    obtain ⟨⟨q1, e1⟩, q2, e2⟩ := lowC_dvd (u := u) (d := d)
    have f1 : u.fdiv (lowC u d) = q1 := by
      conv => lhs; lhs; rw [e1]
      exact Int.mul_fdiv_cancel_left _ hc
    have f2 : d.fdiv (lowC u d) = q2 := by
      conv => lhs; lhs; rw [e2]
      exact Int.mul_fdiv_cancel_left _ hc
    show (u.fdiv (lowC u d)).natAbs < 2 ^ k ∧ (d.fdiv (lowC u d)).natAbs < 2 ^ k ∧ d.fdiv (lowC u d) ≠ 0
    rw [f1, f2]
    refine ⟨Nat.lt_of_le_of_lt ?_ h1, Nat.lt_of_le_of_lt ?_ h2, fun z => hd ?_⟩
    · have := natAbs_fac (q := q1) hc
      rw [← e1] at this
      exact this
    · have := natAbs_fac (q := q2) hc
      rw [← e2] at this
      exact this
    · rw [e2, z, Int.mul_zero]
end Fm

namespace Fm
open PySem PySem.Spec PyProof.Rows L2
theorem w_js {t : TE} {ts : List TE} {acc : Str} {σ : L2.St} {H : Hp} {R : Str → Hp → Prop} (h : t σ H fun x H1 => ∃ y : Str, x = .str y ∧ (acc ++ y).length ≤ sizeLine ∧ tJs ts (acc ++ y) σ H1 R) : tJs (t :: ts) acc σ H R := h
theorem w_js0 {acc : Str} {σ : L2.St} {H : Hp} {R : Str → Hp → Prop} (h : R acc H) : tJs [] acc σ H R := h
theorem w_fmt {te : TE} {σ : L2.St} {H : Hp} {Q : VK} (h : te σ H fun x H1 => (∃ y : Str, x = .str y ∧ y.length ≤ sizeLine ∧ Q (.str y) H1) ∨ ∃ i : Int, x = .int i ∧ i.natAbs.log2 < 1920 ∧ Q (.str (toString i)) H1) : tFmt te σ H Q := h
theorem w_rep {H : Hp} {Q : VK} {l : Addr} {k : Int} {xs : List V} (h : H l = some (.lst xs)) (h0 : 0 ≤ k) (h1 : k ≤ 100) (hx : xs.length ≤ 100) (q : NewO (.lst (List.replicate k.toNat xs).flatten) H Q) : rRep (.ref l) (.int k) H Q := by
  refine ⟨l, k, xs, rfl, rfl, h, by omega, by omega, ?_, q⟩
  have e : xs.length * k.toNat ≤ 100 * 100 := Nat.mul_le_mul hx (by omega)
  exact Nat.le_trans e (by decide)
theorem w_bm {K : PySem.W.Frag} {T : String} {r : V → List V → Hp → VK → Prop} {to : TE} {t : TA} {σ : L2.St} {H : Hp} {Q : VK} (h : to σ H fun x H1 => tyV K T x H1 ∧ t σ H1 fun xs H2 => r x xs H2 Q) : tBM K T r to t σ H Q := h
theorem w_append {H : Hp} {Q : VK} {l : Addr} {xs : List V} {y : V} (h : H l = some (.lst xs)) (hz : xs.length ≤ 1000) (q : Q .non (upd H l (.lst (xs ++ [y])))) : rAppend (.ref l) [y] H Q := ⟨l, xs, y, rfl, rfl, h, small1000 hz, q⟩
theorem w_cat {H : Hp} {Q : VK} {l b : Addr} {xs zs : List V} (h : H l = some (.lst xs)) (h2 : H b = some (.lst zs)) (hz : xs.length + zs.length ≤ 1000) (q : NewO (.lst (xs ++ zs)) H Q) : rCat (.ref l) (.ref b) H Q := ⟨l, b, xs, zs, rfl, rfl, h, h2, Nat.le_of_lt (small1000 hz), q⟩
theorem w_revL {K : PySem.W.Frag} {te : TE} {σ : L2.St} {H : Hp} {Q : VK} (h : te σ H fun x H1 => ∃ a xs, x = .ref a ∧ SqL K H1 a xs ∧ NewO (.lst xs.reverse) H1 Q) : tRevL K te σ H Q := h
theorem Same.mv {b : Addr} {H0 H H' : Hp} (s : Same H0 H) (hb : H0 b = none) (m : Mv b H H') : Same H0 H' := fun p o h => m p o (ne_of_none h hb) (s p o h)
theorem Same.upd {b : Addr} {H0 H : Hp} {o : HO} (s : Same H0 H) (hb : H0 b = none) : Same H0 (upd H b o) := fun p u h => by
  rw [upd_ne (ne_of_none h hb)]
  exact s p u h
/-! ### data of any depth -/
def Dat (K : PySem.W.Frag) (H : Hp) (v : V) (n : Nat) : Prop := ∃ d, Dp K H v d ∧ d.canLay0 = true ∧ d.depth ≤ n
theorem dat_all {K : PySem.W.Frag} {H : Hp} {n : Nat} : ∀ {xs : List V}, (∀ x ∈ xs, Dat K H x n) → ∃ ds, DpAll K H xs ds ∧ PyData.canLayAll0 ds = true ∧ PyData.depthAll ds ≤ n ∧ ds.length = xs.length
  | [], _ => ⟨[], .nil, by simp [PyData.canLayAll0], by simp [PyData.depthAll], rfl⟩
  | x :: xs, h => by
    obtain ⟨d, h1, h2, h3⟩ := h x (List.mem_cons_self ..)
    obtain ⟨ds, g1, g2, g3, g4⟩ := dat_all (xs := xs) fun y hy => h y (List.mem_cons_of_mem _ hy)
    refine ⟨d :: ds, .cons h1 g1, ?_, ?_, by rw [List.length_cons, List.length_cons, g4]⟩
    · rw [PyData.canLayAll0, h2, g2]; rfl
    · rw [PyData.depthAll]; omega
theorem dat_int {K : PySem.W.Frag} {H : Hp} {i : Int} : Dat K H (.int i) 0 := ⟨.int i, .int i, by simp [PyData.canLay0], by simp [PyData.depth]⟩
theorem dat_tup {K : PySem.W.Frag} {H : Hp} {p : Addr} {xs : List V} {n : Nat} (h : H p = some (.tup xs)) (hx : ∀ x ∈ xs, Dat K H x n) : Dat K H (.ref p) (n + 1) := by
  obtain ⟨ds, g1, g2, g3, g4⟩ := dat_all hx
  exact ⟨.tuple ds, .tup (SqT.of h) g1, by rw [PyData.canLay0]; exact g2, by rw [PyData.depth]; omega⟩
theorem NumB.dat {K : PySem.W.Frag} {H : Hp} {v : V} {k : Nat} (h : NumB H v k) : Dat K H v 1 := by
  obtain ⟨p, x, y, rfl, hp, _⟩ := h
  refine dat_tup hp fun z hz => ?_
  rcases List.mem_cons.mp hz with rfl | hz
  · exact dat_int
  · rw [List.mem_singleton.mp hz]; exact dat_int
theorem RowB.dat {K : PySem.W.Frag} {H : Hp} {v : V} {n k : Nat} (h : RowB H v n k) : Dat K H v 2 := by
  obtain ⟨p, xs, rfl, hp, _, hx⟩ := h
  exact dat_tup hp fun z hz => (hx z hz).dat
theorem shaped_of {d : PyData} (h : d.canLay0 = true) (h2 : d.depth ≤ 64) : SeqAt.shaped d = true := by
  show (d.canLay0 && decide (d.depth ≤ 64)) = true
  rw [h, decide_eq_true h2]
  rfl
/-! ### texts -/
def TxtOk (z : Str) (n : Nat) : Prop := z.length ≤ n ∧ PyData.strOk z = true
theorem ok_str (s : String) : PyData.strOk (Str.ofString s) = true := by
  rw [Str.ofString_eq_toList]
  unfold PyData.strOk
  rw [Array.all_eq_true]
  intro i hi
  simp only [List.getElem_toArray, List.getElem_map, decide_eq_true_eq]
  have h := (s.toList[i]'(by simpa using hi)).valid
  simp only [Char.toNat]
  generalize (s.toList[i]'(by simpa using hi)).val = c at h
  rcases h with h | h
  · have : c.toNat < 55296 := h
    omega
  · exact h.2
theorem ok_int {i : Int} (h : i.natAbs.log2 < 1920) : TxtOk (Str.ofString (toString i)) 1921 := ⟨int_text_len_1921 h, ok_str _⟩
theorem ok_app {a b : Str} {n m : Nat} (h1 : TxtOk a n) (h2 : TxtOk b m) : TxtOk (a ++ b) (n + m) := by
  refine ⟨?_, ?_⟩
  · rw [Str.length_append]; exact Nat.add_le_add h1.1 h2.1
  · have e1 := h1.2
    have e2 := h2.2
    unfold PyData.strOk at e1 e2 ⊢
    rw [Str.cps_append, Array.all_append, e1, e2]
    rfl
theorem TxtOk.mono {a : Str} {n m : Nat} (h : TxtOk a n) (hl : n ≤ m) : TxtOk a m := ⟨Nat.le_trans h.1 hl, h.2⟩
theorem ok_empty : TxtOk Str.empty 0 := ⟨Nat.le_refl _, by decide +kernel⟩
theorem ok_join {sep : Str} {n m : Nat} (hs : TxtOk sep m) : ∀ {ys : List Str}, (∀ y ∈ ys, TxtOk y n) → TxtOk (Str.join sep ys) (ys.length * (n + m))
  | [], _ => ok_empty.mono (Nat.zero_le _)
  | [x], h => by
    refine (h x (List.mem_singleton_self x)).mono ?_
    show n ≤ 1 * (n + m)
    omega
  | x :: y :: r, h => by
    have h1 := h x (List.mem_cons_self ..)
    have h2 := ok_join hs (ys := y :: r) fun z hz => h z (List.mem_cons_of_mem _ hz)
    have h3 := ok_app (ok_app h1 hs) h2
    refine TxtOk.mono h3 ?_
    have e : (x :: y :: r).length * (n + m) = (y :: r).length * (n + m) + (n + m) := by rw [List.length_cons, Nat.succ_mul]
    omega
theorem sum_le {n : Nat} : ∀ {ys : List Str}, (∀ y ∈ ys, TxtOk y n) → (ys.map (·.length)).sum ≤ ys.length * n
  | [], _ => Nat.zero_le _
  | y :: r, h => by
    have h1 := (h y (List.mem_cons_self ..)).1
    have h2 := sum_le (ys := r) fun z hz => h z (List.mem_cons_of_mem _ hz)
    rw [List.map_cons, List.sum_cons, List.length_cons, Nat.succ_mul]
    omega
/-- a number's text -/
def numT (a : Int × Int) : Str := if a.2 = 1 then Str.ofString (toString a.1) else Str.ofString (toString a.1) ++ ("/" : Str) ++ Str.ofString (toString a.2)
def Sm (a : Int × Int) : Prop := a.1.natAbs.log2 < 1920 ∧ a.2.natAbs.log2 < 1920
theorem numT_ok {a : Int × Int} (h : Sm a) : TxtOk (numT a) 3900 := by
  unfold numT
  split
  · exact (ok_int h.1).mono (by decide)
  · exact (ok_app (ok_app (ok_int h.1) ⟨(by decide : ("/" : Str).length ≤ 1), by decide +kernel⟩) (ok_int h.2)).mono (by decide)
def rowT (r : List (Int × Int)) : Str := Txt.join (" " : Str) (r.map numT)
theorem rowT_ok {r : List (Int × Int)} (h : ∀ a ∈ r, Sm a) (hl : r.length ≤ 10) : TxtOk (rowT r) 40000 := by
  unfold rowT
  rw [TL.join_eq]
  refine (ok_join (n := 3900) (m := 1) ⟨by decide, by decide +kernel⟩ fun y hy => ?_).mono ?_
  · obtain ⟨a, ha, rfl⟩ := List.mem_map.mp hy
    exact numT_ok (h a ha)
  · rw [List.length_map]
    omega
def tabT (t : List (List (Int × Int))) : Str := Txt.join (" / " : Str) (t.map rowT)
theorem tabT_ok {t : List (List (Int × Int))} (h : ∀ r ∈ t, (∀ a ∈ r, Sm a) ∧ r.length ≤ 10) (hl : t.length ≤ 10) : TxtOk (tabT t) 500000 := by
  unfold tabT
  rw [TL.join_eq]
  refine (ok_join (n := 40000) (m := 3) ⟨by decide, by decide +kernel⟩ fun y hy => ?_).mono ?_
  · obtain ⟨a, ha, rfl⟩ := List.mem_map.mp hy
    exact rowT_ok (h a ha).1 (h a ha).2
  · rw [List.length_map]
    omega
/-! ### numbers, rows, tables by their values -/
def NumV (H : Hp) (v : V) (a : Int × Int) : Prop := ∃ p, v = .ref p ∧ H p = some (.tup [.int a.1, .int a.2])
def SqV {α : Type} (P : Hp → V → α → Prop) (H : Hp) (v : V) (as : List α) : Prop := ∃ p xs, v = .ref p ∧ H p = some (.tup xs) ∧ xs.length = as.length ∧ ∀ (i : Nat) (x : V) (a : α), xs[i]? = some x → as[i]? = some a → P H x a
abbrev RowV := SqV NumV
abbrev TabV := SqV RowV
theorem NumV.kt {H H' : Hp} {v : V} {a : Int × Int} (h : NumV H v a) (s : Kt H H') : NumV H' v a := by
  obtain ⟨p, e, hp⟩ := h
  exact ⟨p, e, s _ _ hp⟩
theorem RowV.kt {H H' : Hp} {v : V} {a : List (Int × Int)} (h : RowV H v a) (s : Kt H H') : RowV H' v a := by
  obtain ⟨p, xs, e, hp, hl, hx⟩ := h
  exact ⟨p, xs, e, s _ _ hp, hl, fun i x b h1 h2 => (hx i x b h1 h2).kt s⟩
theorem TabV.kt {H H' : Hp} {v : V} {a : List (List (Int × Int))} (h : TabV H v a) (s : Kt H H') : TabV H' v a := by
  obtain ⟨p, xs, e, hp, hl, hx⟩ := h
  exact ⟨p, xs, e, s _ _ hp, hl, fun i x b h1 h2 => RowV.kt (hx i x b h1 h2) s⟩
theorem sm_of {x : Int} {k : Nat} (h : x.natAbs < 2 ^ k) (hk : 0 < k) (hk2 : k ≤ 1000) : x.natAbs.log2 < 1920 := Nat.lt_of_lt_of_le (PySem.Flt.log2_lt_of hk h) (by omega)
theorem NumB.val {H : Hp} {v : V} {k : Nat} (h : NumB H v k) (hk : 0 < k) (hk2 : k ≤ 1000) : ∃ a, NumV H v a ∧ Sm a := by
  obtain ⟨p, x, y, e, hp, h1, h2, _⟩ := h
  exact ⟨(x, y), ⟨p, e, hp⟩, sm_of h1 hk hk2, sm_of h2 hk hk2⟩
theorem sq_val {α : Type} {P : Hp → V → α → Prop} {S : α → Prop} {H : Hp} : ∀ {xs : List V}, (∀ x ∈ xs, ∃ a, P H x a ∧ S a) → ∃ as : List α, xs.length = as.length ∧ (∀ a ∈ as, S a) ∧ ∀ (i : Nat) (x : V) (a : α), xs[i]? = some x → as[i]? = some a → P H x a
  | [], _ => ⟨[], rfl, (fun a ha => by cases ha), fun i x a h _ => by simp at h⟩
  | x :: xs, h => by
    obtain ⟨a, h1, h2⟩ := h x (List.mem_cons_self ..)
    obtain ⟨as, g1, g2, g3⟩ := sq_val (xs := xs) fun y hy => h y (List.mem_cons_of_mem _ hy)
    refine ⟨a :: as, by rw [List.length_cons, List.length_cons, g1], fun b hb => ?_, fun i y b e1 e2 => ?_⟩
    · rcases List.mem_cons.mp hb with rfl | hb
      · exact h2
      · exact g2 b hb
    · cases i with
      | zero =>
        cases Option.some.inj e1
        cases Option.some.inj e2
        exact h1
      | succ i => exact g3 i y b e1 e2
theorem RowB.val {H : Hp} {v : V} {n k : Nat} (h : RowB H v n k) (hk : 0 < k) (hk2 : k ≤ 1000) : ∃ r, RowV H v r ∧ r.length = n ∧ ∀ a ∈ r, Sm a := by
  obtain ⟨p, xs, e, hp, hl, hx⟩ := h
  obtain ⟨as, g1, g2, g3⟩ := sq_val (P := NumV) (S := Sm) (H := H) (xs := xs) fun x hx' => (hx x hx').val hk hk2
  exact ⟨as, ⟨p, xs, e, hp, g1, g3⟩, by omega, g2⟩
theorem TabB.val {H : Hp} {v : V} {m n k : Nat} (h : TabB H v m n k) (hk : 0 < k) (hk2 : k ≤ 1000) : ∃ t, TabV H v t ∧ t.length = m ∧ ∀ r ∈ t, (∀ a ∈ r, Sm a) ∧ r.length = n := by
  obtain ⟨p, xs, e, hp, hl, hx⟩ := h
  obtain ⟨as, g1, g2, g3⟩ := sq_val (P := RowV) (S := fun r => (∀ a ∈ r, Sm a) ∧ r.length = n) (H := H) (xs := xs) fun x hx' => by
    obtain ⟨r, h1, h2, h3⟩ := (hx x hx').val hk hk2
    exact ⟨r, h1, h3, h2⟩
  exact ⟨as, ⟨p, xs, e, hp, g1, g3⟩, by omega, g2⟩
/-! ### rows grown -/
def kk (i : Nat) : Nat := 2 ^ (i + 3) - 1
theorem RowB.zeros {H : Hp} {u : Addr} {l : Addr} {n : Nat} (hu : H u = some (.tup [.int 0, .int 1])) (hl : H l = some (.tup (List.replicate n [V.ref u]).flatten)) : RowB H (.ref l) n 7 := by
  rw [List.flatten_replicate_singleton] at hl
  refine ⟨l, _, rfl, hl, List.length_replicate, fun x hx => ?_⟩
  rw [(List.mem_replicate.mp hx).2]
  exact ⟨u, 0, 1, rfl, hu, by decide, by decide, by decide⟩
/-! ### what is looked at together -/
def Tri (H : Hp) (v : V) : Prop := ∃ (p : Addr) (x r t : V), v = .ref p ∧ H p = some (.tup [x, r, t]) ∧ (∃ a, NumV H x a ∧ Sm a) ∧ (∃ rs, RowV H r rs ∧ (∀ a ∈ rs, Sm a) ∧ rs.length ≤ 10) ∧ ∃ ts, TabV H t ts ∧ (∀ r ∈ ts, (∀ a ∈ r, Sm a) ∧ r.length ≤ 10) ∧ ts.length ≤ 10
theorem Tri.kt {H H' : Hp} {v : V} (h : Tri H v) (s : Kt H H') : Tri H' v := by
  obtain ⟨p, x, r, t, e, hp, ⟨a, h1, h2⟩, ⟨rs, h3, h4⟩, ts, h5, h6⟩ := h
  exact ⟨p, x, r, t, e, s _ _ hp, ⟨a, h1.kt s, h2⟩, ⟨rs, RowV.kt h3 s, h4⟩, ts, TabV.kt h5 s, h6⟩
theorem TabB.mono {H : Hp} {v : V} {m n k l : Nat} (h : TabB H v m n k) (hl : k ≤ l) : TabB H v m n l := by
  obtain ⟨p, xs, e, hp, hn, r⟩ := h
  exact ⟨p, xs, e, hp, hn, fun x hx => (r x hx).mono hl⟩
theorem sqv2 {α : Type} {P : Hp → V → α → Prop} {H : Hp} {p : Addr} {x y : V} {a b : α} (hp : H p = some (.tup [x, y])) (h1 : P H x a) (h2 : P H y b) : SqV P H (.ref p) [a, b] := ⟨p, [x, y], rfl, hp, rfl, fun i z c e1 e2 => by
  match i with
  | 0 => cases Option.some.inj e1; cases Option.some.inj e2; exact h1
  | 1 => cases Option.some.inj e1; cases Option.some.inj e2; exact h2
  | i + 2 => simp at e1⟩
theorem all_true (n : Nat) : (List.replicate n true).all id = true := by
  rw [List.all_eq_true]
  intro x hx
  rw [(List.mem_replicate.mp hx).2]
  rfl
theorem fresh_of {H : Hp} {p q : Addr} {o : HO} (h : H p = some o) (hq : H q = none) : p ≠ q := fun e => by
  subst e
  rw [h] at hq
  cases hq
end Fm

namespace Fm
open PySem PySem.Spec PyProof.Rows L2
theorem w_chain {r r' : R2} {ta tb tc : TE} {σ : L2.St} {H : Hp} {Q : VK} (h : ta σ H fun x H1 => tb σ H1 fun y H2 => r x y H2 fun z H3 => ∃ k, z = .bl k ∧ (if k = true then tc σ H3 fun w' H4 => r' y w' H4 Q else Q (.bl false) H3)) : tChain r r' ta tb tc σ H Q := h
theorem w_rng2 {ta : TA} {σ : L2.St} {H : Hp} {R : It → Hp → Prop} (h : ta σ H fun vs H1 => ∃ i j : Int, vs = [.int i, .int j] ∧ (-(2 ^ 62) ≤ i ∧ i < 2 ^ 62 ∧ -(2 ^ 62) ≤ j ∧ j < 2 ^ 62) ∧ R (Itr i (j - i).toNat) H1) : iRng2 ta σ H R := h
theorem w_iteB {b : Bool} {A B : Prop} (h1 : b = true → A) (h2 : b = false → B) : if b = true then A else B := by
  cases b with
  | true => exact h1 rfl
  | false => exact h2 rfl
theorem w_iteBN {b : Bool} {A B : Prop} (h1 : b = false → A) (h2 : b = true → B) : if (!b) = true then A else B := by
  cases b with
  | true => exact h2 rfl
  | false => exact h1 rfl
/-! ### any things -/
def Kl (H H' : Hp) : Prop := ∀ p xs, H p = some (.lst xs) → ∃ ys, H' p = some (.lst ys)
def Kd (H H' : Hp) : Prop := Kt H H' ∧ Kl H H'
theorem Kd.refl (H : Hp) : Kd H H := ⟨Kt.refl H, fun _ xs h => ⟨xs, h⟩⟩
theorem Kd.trans {H H1 H2 : Hp} (a : Kd H H1) (b : Kd H1 H2) : Kd H H2 := ⟨a.1.trans b.1, fun p xs h => by
  obtain ⟨ys, h1⟩ := a.2 p xs h
  exact b.2 p ys h1⟩
theorem Kd.of {H H' : Hp} (s : Same H H') : Kd H H' := ⟨Kt.of s, fun p xs h => ⟨xs, s _ _ h⟩⟩
theorem Kd.mv {b : Addr} {H H' : Hp} (m : Mv b H H') (hb : Bag H b) (hb' : Bag H' b) : Kd H H' := ⟨m.kt hb, fun p xs h => by
  by_cases e : p = b
  · subst e
    obtain ⟨A, B, h2, _⟩ := hb'
    exact ⟨_, h2⟩
  · exact ⟨xs, m _ _ e h⟩⟩
theorem Kd.updL {H : Hp} {D : Addr} {xs ys : List V} (h : H D = some (.lst xs)) : Kd H (upd H D (.lst ys)) := ⟨Kt.updL h, fun p zs hp => by
  by_cases e : p = D
  · subst e
    exact ⟨ys, upd_same⟩
  · exact ⟨zs, by rw [upd_ne e]; exact hp⟩⟩
def atomB : V → Bool
  | .non => true
  | .bl _ => true
  | .int _ => true
  | .str _ => true
  | _ => false
/-- any thing: of no parts, a list, a tuple of things of no parts -/
def Th (H : Hp) (v : V) : Prop := atomB v = true ∨ (∃ p xs, v = .ref p ∧ H p = some (.lst xs)) ∨ ∃ p xs, v = .ref p ∧ H p = some (.tup xs) ∧ ∀ x ∈ xs, atomB x = true
theorem Th.kd {H H' : Hp} {v : V} (h : Th H v) (k : Kd H H') : Th H' v := by
  rcases h with h | ⟨p, xs, e, h⟩ | ⟨p, xs, e, h, hx⟩
  · exact .inl h
  · obtain ⟨ys, h2⟩ := k.2 p xs h
    exact .inr (.inl ⟨p, ys, e, h2⟩)
  · exact .inr (.inr ⟨p, xs, e, k.1 _ _ h, hx⟩)
theorem Th.sm {H H' : Hp} {v : V} (h : Th H v) (s : Same H H') : Th H' v := h.kd (Kd.of s)
theorem Th.tup {H : Hp} {p : Addr} {xs : List V} (h : H p = some (.tup xs)) (hx : xs.all atomB = true) : Th H (.ref p) := .inr (.inr ⟨p, xs, rfl, h, fun x m => List.all_eq_true.mp hx x m⟩)
theorem Th.lst {H : Hp} {p : Addr} {xs : List V} (h : H p = some (.lst xs)) : Th H (.ref p) := .inr (.inl ⟨p, xs, rfl, h⟩)
theorem NumB.th {H : Hp} {v : V} {k : Nat} (h : NumB H v k) : Th H v := by
  obtain ⟨p, x, y, rfl, hp, _⟩ := h
  exact Th.tup hp rfl
/-! ### what is told of them -/
def intB : V → Bool
  | .int _ => true
  | .bl _ => true
  | _ => false
def blB : V → Bool
  | .bl _ => true
  | _ => false
def wholeB : V → Bool
  | .int _ => true
  | _ => false
def grdB : V → Bool
  | .int i => decide (i ∈ [0, 3, 5, 7, 11, 13])
  | _ => false
def numOk (g : Int) : List V → Bool
  | [.int t, .int b] => if g = 0 then decide (1 ≤ b) && decide (Int.gcd t b = 1) else (decide (0 ≤ t) && decide (t < g)) && decide (b = 1)
  | _ => false
def numAt (g : Int) : Option HO → Bool
  | some (.tup xs) => numOk g xs
  | _ => false
def numOf (H : Hp) (g : Int) : V → Bool
  | .ref p => numAt g (H p)
  | _ => false
theorem numOf_tup {H : Hp} {g : Int} {p : Addr} {xs : List V} (h : H p = some (.tup xs)) : numOf H g (.ref p) = numOk g xs := by
  show numAt g (H p) = _
  rw [h]
  rfl
theorem numOf_lst {H : Hp} {g : Int} {p : Addr} {xs : List V} (h : H p = some (.lst xs)) : numOf H g (.ref p) = false := by
  show numAt g (H p) = _
  rw [h]
  rfl
theorem whole_eq (v : V) : wholeB v = (intB v && !blB v) := by
  cases v <;> rfl
theorem whole_int {v : V} (h : wholeB v = true) : ∃ i, v = .int i := by
  cases v with
  | int i => exact ⟨i, rfl⟩
  | _ => cases h
theorem beq_comm_int (a b : Int) : (a == b) = decide (b = a) := by
  by_cases h : a = b
  · subst h; simp
  · rw [beq_eq_false_iff_ne.mpr h, decide_eq_false (fun e => h e.symm)]
theorem in_grd (i : Int) : inV (.int i) [.int 0, .int 3, .int 5, .int 7, .int 11, .int 13] = grdB (.int i) := by
  show (((0 : Int) == i) || (((3 : Int) == i) || (((5 : Int) == i) || (((7 : Int) == i) || (((11 : Int) == i) || (((13 : Int) == i) || false)))))) = decide (i ∈ [0, 3, 5, 7, 11, 13])
  rw [beq_comm_int, beq_comm_int, beq_comm_int, beq_comm_int, beq_comm_int, beq_comm_int, Bool.eq_iff_iff]
  simp
theorem numOk_len {g : Int} {xs : List V} (h : xs.length ≠ 2) : numOk g xs = false := by
  match xs, h with
  | [], _ => rfl
  | [x], _ => cases x <;> rfl
  | [x, y], h => exact absurd rfl h
  | x :: y :: z :: r, _ => cases x <;> cases y <;> rfl
theorem numOk_l {g : Int} {x y : V} (h : wholeB x = false) : numOk g [x, y] = false := by
  cases x with
  | int i => cases h
  | _ => cases y <;> rfl
theorem numOk_r {g : Int} {x y : V} (h : wholeB y = false) : numOk g [x, y] = false := by
  cases y with
  | int i => cases h
  | _ => cases x <;> rfl
theorem numOk_0 {t b : Int} : numOk 0 [.int t, .int b] = (decide (1 ≤ b) && decide ((Int.gcd t b : Int) = 1)) := by
  have e : numOk 0 [.int t, .int b] = (decide (1 ≤ b) && decide (Int.gcd t b = 1)) := by simp [numOk]
  rw [e]
  congr 1
  rw [decide_eq_decide]
  omega
theorem numOk_g {g t b : Int} (h : g ≠ 0) : numOk g [.int t, .int b] = ((decide (0 ≤ t) && decide (t < g)) && decide (b = 1)) := by
  simp [numOk, h]
/-! ### isinstance -/
def tyAt : Option HO → String
  | some (.tup _) => "tuple"
  | _ => "list"
def tyN (H : Hp) : V → String
  | .non => "NoneType"
  | .bl _ => "bool"
  | .int _ => "int"
  | .str _ => "str"
  | .ref p => tyAt (H p)
  | _ => ""
theorem Th.ty {K : PySem.W.Frag} {H : Hp} {v : V} (h : Th H v) : TyX K H v (.type (tyN H v)) := by
  rcases h with h | ⟨p, xs, rfl, h⟩ | ⟨p, xs, rfl, h, _⟩
  · cases v with
    | non => exact .base .non
    | bl b => exact .base (.bl b)
    | int i => exact .base (.int i)
    | str z => exact .base (.str z)
    | _ => cases h
  · have e : tyN H (.ref p) = "list" := by show tyAt (H p) = _; rw [h]; rfl
    rw [e]
    exact .base (.lst h)
  · have e : tyN H (.ref p) = "tuple" := by show tyAt (H p) = _; rw [h]; rfl
    rw [e]
    exact .base (.tup h)
theorem isi_is {K : PySem.W.Frag} {H : Hp} {Q : VK} {v : V} {a T : String} {b : Bool} (h : TyX K H v (.type a)) (e : kitB a T = some b) (q : Q (.bl b) H) : rIsi K [v, .ty T] H Q := ⟨v, .ty T, .type a, .type T, b, rfl, .ty T, h, kit_ty e, q⟩
/-! ### common divisors -/
theorem gcd_fmod (x y : Int) : Int.gcd y (x.fmod y) = Int.gcd x y := by
  have e : x.fmod y = x - y * x.fdiv y := Int.fmod_def x y
  rw [e]
  refine Nat.dvd_antisymm ?_ ?_
  · have h1 := Int.gcd_dvd_left y (x - y * x.fdiv y)
    have h2 := Int.gcd_dvd_right y (x - y * x.fdiv y)
    refine Int.dvd_gcd ?_ h1
    have h3 := Int.dvd_add h2 (Int.dvd_mul_of_dvd_left (c := x.fdiv y) h1)
    rw [Int.sub_add_cancel] at h3
    exact h3
  · have h1 := Int.gcd_dvd_left x y
    have h2 := Int.gcd_dvd_right x y
    refine Int.dvd_gcd h2 ?_
    exact Int.dvd_sub h1 (Int.dvd_mul_of_dvd_left h2)
theorem fmod_small (x : Int) {y : Int} (h : y ≠ 0) : (x.fmod y).natAbs < y.natAbs := by
  rcases Int.lt_or_gt_of_ne h with h | h
  · have e : x.fmod y = -((-x).fmod (-y)) := by
      have := Int.neg_fmod_neg x y
      omega
    have h1 := Int.fmod_nonneg_of_pos (-x) (show 0 < -y by omega)
    have h2 := Int.fmod_lt_of_pos (-x) (show 0 < -y by omega)
    omega
  · have h1 := Int.fmod_nonneg_of_pos x h
    have h2 := Int.fmod_lt_of_pos x h
    omega
def grds (i : Nat) : List Int := ((List.range i).map fun (j : Nat) => ((-20 : Int) + (j : Int))).filter fun z => grdB (.int z)
end Fm

namespace Fm
open PySem PySem.Spec PyProof.Rows L2
/-! ### fractions in lowest terms -/
def Red (p : Int × Int) : Prop := 0 < p.2 ∧ Int.gcd p.1 p.2 = 1
theorem dvd_cop {c a d : Int} (h : Int.gcd a c = 1) (hd : c ∣ a * d) : c ∣ d := by
  have h1 : c.natAbs ∣ a.natAbs * d.natAbs := by
    rw [← Int.natAbs_mul]
    exact Int.natAbs_dvd_natAbs.mpr hd
  have h2 : Nat.Coprime c.natAbs a.natAbs := by
    rw [Nat.Coprime, Nat.gcd_comm]
    exact h
  exact Int.natAbs_dvd_natAbs.mp (h2.dvd_of_dvd_mul_left h1)
theorem red_uniq {p q : Int × Int} (hp : Red p) (hq : Red q) (h : p.1 * q.2 = q.1 * p.2) : p = q := by
  obtain ⟨a, c⟩ := p
  obtain ⟨b, d⟩ := q
  obtain ⟨hc, h1⟩ := hp
  obtain ⟨hd, h2⟩ := hq
  simp only at hc h1 hd h2 h
  have d1 : c ∣ d := by
    have : c ∣ a * d := ⟨b, by rw [h, Int.mul_comm]⟩
    exact dvd_cop h1 this
  have d2 : d ∣ c := by
    have : d ∣ b * c := ⟨a, by rw [← h, Int.mul_comm]⟩
    exact dvd_cop h2 this
  have e : c = d := Int.le_antisymm (Int.le_of_dvd hd d1) (Int.le_of_dvd hc d2)
  subst e
  have e2 : a = b := Int.eq_of_mul_eq_mul_right (by omega) h
  rw [e2]
theorem low0_eq {u d : Int} (hd : d ≠ 0) : ∃ q1 q2, lowF 0 u d = (q1, q2) ∧ u = lowC u d * q1 ∧ d = lowC u d * q2 := by
  have hI : lowI 0 u d = none := by
    unfold lowI
    rw [if_neg (by decide)]
  have hc := lowC_ne (u := u) hd
  obtain ⟨⟨q1, e1⟩, q2, e2⟩ := lowC_dvd (u := u) (d := d)
  refine ⟨q1, q2, ?_, e1, e2⟩
  have f1 : u.fdiv (lowC u d) = q1 := by
    conv => lhs; lhs; rw [e1]
    exact Int.mul_fdiv_cancel_left _ hc
  have f2 : d.fdiv (lowC u d) = q2 := by
    conv => lhs; lhs; rw [e2]
    exact Int.mul_fdiv_cancel_left _ hc
  unfold lowF
  rw [hI]
  show (u.fdiv (lowC u d), d.fdiv (lowC u d)) = _
  rw [f1, f2]
theorem lowC_abs {u d : Int} : (lowC u d).natAbs = Int.gcd u d := by
  unfold lowC
  split
  · rw [Int.mul_neg, Int.mul_one, Int.natAbs_neg, Int.natAbs_natCast]
  · rw [Int.mul_one, Int.natAbs_natCast]
theorem low0_red {u d : Int} (hd : d ≠ 0) : Red (lowF 0 u d) ∧ (lowF 0 u d).1 * d = u * (lowF 0 u d).2 := by
  obtain ⟨q1, q2, e, e1, e2⟩ := low0_eq (u := u) hd
  have hc := lowC_ne (u := u) hd
  have ha := lowC_abs (u := u) (d := d)
  rw [e]
  refine ⟨⟨?_, ?_⟩, ?_⟩
  · show 0 < q2
    have hg : 0 < Int.gcd u d := by omega
    unfold lowC at e2
    by_cases h : d < 0
    · rw [if_pos h, Int.mul_neg, Int.mul_one] at e2
      rcases Int.lt_trichotomy q2 0 with z | z | z
      · have := Int.mul_nonneg_of_nonpos_of_nonpos (a := -(Int.gcd u d : Int)) (b := q2) (by omega) (by omega)
        omega
      · rw [z, Int.mul_zero] at e2; omega
      · exact z
    · rw [if_neg h, Int.mul_one] at e2
      rcases Int.lt_trichotomy q2 0 with z | z | z
      · have := Int.mul_nonpos_of_nonneg_of_nonpos (a := (Int.gcd u d : Int)) (b := q2) (by omega) (by omega)
        omega
      · rw [z, Int.mul_zero] at e2; omega
      · exact z
  · show Int.gcd q1 q2 = 1
    have h1 : Int.gcd (lowC u d * q1) (lowC u d * q2) = (lowC u d).natAbs * Int.gcd q1 q2 := Int.gcd_mul_left ..
    rw [← e1, ← e2, ha] at h1
    have hg : 0 < Int.gcd u d := by omega
    have h2 : Int.gcd u d * 1 = Int.gcd u d * Int.gcd q1 q2 := by rw [Nat.mul_one]; exact h1
    exact (Nat.eq_of_mul_eq_mul_left hg h2).symm
  · show q1 * d = u * q2
    conv => lhs; rw [e2]
    conv => rhs; rw [e1]
    rw [← Int.mul_assoc, Int.mul_comm q1]
/-! ### sums of products -/
def timesF (g : Int) (x y : Int × Int) : Int × Int := lowF g (x.1 * y.1) (x.2 * y.2)
def plusF (g : Int) (x y : Int × Int) : Int × Int := lowF g (x.1 * y.2 + y.1 * x.2) (x.2 * y.2)
/-! ### rows as whole numbers over one bottom -/
def dotF (ts ss : List Int) : Int := (List.zipWith (fun a b => a * b) ts ss).sum
def wrB (r : List (Int × Int)) : Int := r.foldl (fun b x => b.fdiv (Int.gcd b x.2 : Int) * x.2) 1
def wrT (r : List (Int × Int)) : List Int := r.map fun x => x.1 * (wrB r).fdiv x.2
theorem lcm_step {b c : Int} (hb : 0 < b) (hc : 0 < c) : 0 < b.fdiv (Int.gcd b c : Int) * c ∧ b ∣ b.fdiv (Int.gcd b c : Int) * c ∧ c ∣ b.fdiv (Int.gcd b c : Int) * c ∧ ∀ L, b ∣ L → c ∣ L → b.fdiv (Int.gcd b c : Int) * c ∣ L := by
  have hg : 0 < Int.gcd b c := Nat.pos_of_ne_zero fun z => by
    have := (Int.gcd_eq_zero_iff.mp z).2
    omega
  have hg' : (0 : Int) < (Int.gcd b c : Int) := by omega
  obtain ⟨q1, e1⟩ := Int.gcd_dvd_left b c
  obtain ⟨q2, e2⟩ := Int.gcd_dvd_right b c
  have f1 : b.fdiv (Int.gcd b c : Int) = q1 := by
    conv => lhs; lhs; rw [e1]
    exact Int.mul_fdiv_cancel_left _ (by omega)
  rw [f1]
  have hq1 : 0 < q1 := Int.pos_of_mul_pos_right (by rw [← e1]; exact hb) hg'
  have hcop : Int.gcd q1 q2 = 1 := by
    have h1 : Int.gcd ((Int.gcd b c : Int) * q1) ((Int.gcd b c : Int) * q2) = ((Int.gcd b c : Int)).natAbs * Int.gcd q1 q2 := Int.gcd_mul_left ..
    rw [← e1, ← e2, Int.natAbs_natCast] at h1
    have h2 : Int.gcd b c * 1 = Int.gcd b c * Int.gcd q1 q2 := by rw [Nat.mul_one]; exact h1
    exact (Nat.eq_of_mul_eq_mul_left hg h2).symm
  refine ⟨Int.mul_pos hq1 hc, ⟨q2, ?_⟩, ⟨q1, Int.mul_comm _ _⟩, fun L h1 h2 => ?_⟩
  · conv => lhs; rw [e2]
    conv => rhs; rw [e1]
    ac_rfl
  · obtain ⟨k1, hk1⟩ := h1
    obtain ⟨k2, hk2⟩ := h2
    have h3 : q1 * k1 = q2 * k2 := by
      have : (Int.gcd b c : Int) * (q1 * k1) = (Int.gcd b c : Int) * (q2 * k2) := by
        rw [← Int.mul_assoc, ← Int.mul_assoc, ← e1, ← e2, ← hk1, ← hk2]
      exact Int.eq_of_mul_eq_mul_left (by omega) this
    have h4 : q1 ∣ k2 := dvd_cop (a := q2) (by rw [Int.gcd_comm]; exact hcop) ⟨k1, by rw [← h3]⟩
    obtain ⟨k3, hk3⟩ := h4
    exact ⟨k3, by rw [hk2, hk3]; ac_rfl⟩
theorem wr_fold : ∀ (r : List (Int × Int)) (b : Int), 0 < b → (∀ x ∈ r, 0 < x.2) → 0 < r.foldl (fun b x => b.fdiv (Int.gcd b x.2 : Int) * x.2) b ∧ b ∣ r.foldl (fun b x => b.fdiv (Int.gcd b x.2 : Int) * x.2) b ∧ (∀ x ∈ r, x.2 ∣ r.foldl (fun b x => b.fdiv (Int.gcd b x.2 : Int) * x.2) b) ∧ ∀ L, b ∣ L → (∀ x ∈ r, x.2 ∣ L) → r.foldl (fun b x => b.fdiv (Int.gcd b x.2 : Int) * x.2) b ∣ L
  | [], b, hb, _ => ⟨hb, Int.dvd_refl b, fun x hx => (by cases hx), fun L h _ => h⟩
  | x :: r, b, hb, h => by
    obtain ⟨s1, s2, s3, s4⟩ := lcm_step hb (h x (List.mem_cons_self ..))
    obtain ⟨t1, t2, t3, t4⟩ := wr_fold r _ s1 fun y hy => h y (List.mem_cons_of_mem _ hy)
    rw [List.foldl_cons]
    refine ⟨t1, Int.dvd_trans s2 t2, fun y hy => ?_, fun L h1 h2 => ?_⟩
    · rcases List.mem_cons.mp hy with rfl | hy
      · exact Int.dvd_trans s3 t2
      · exact t3 y hy
    · exact t4 L (s4 L h1 (h2 x (List.mem_cons_self ..))) fun y hy => h2 y (List.mem_cons_of_mem _ hy)
theorem wrB_spec {r : List (Int × Int)} (h : ∀ x ∈ r, 0 < x.2) : 0 < wrB r ∧ (∀ x ∈ r, x.2 ∣ wrB r) ∧ ∀ L, (∀ x ∈ r, x.2 ∣ L) → wrB r ∣ L := by
  obtain ⟨h1, _, h3, h4⟩ := wr_fold r 1 (by decide) h
  exact ⟨h1, h3, fun L h => h4 L (Int.one_dvd L) h⟩
def RelL (B : Int) : List (Int × Int) → List Int → Prop
  | [], [] => True
  | x :: xs, t :: ts => (0 < x.2 ∧ t * x.2 = x.1 * B) ∧ RelL B xs ts
  | _, _ => False
def cellF (g : Int) (r s : List (Int × Int)) : Int × Int := (List.zipWith (timesF g) r s).foldl (plusF g) (0, 1)
theorem wrB_one : ∀ {r : List (Int × Int)}, (∀ x ∈ r, x.2 = 1) → wrB r = 1 := by
  intro r
  unfold wrB
  induction r with
  | nil => intro _; rfl
  | cons x r ih =>
    intro h
    rw [List.foldl_cons, h x (List.mem_cons_self ..)]
    show r.foldl _ ((1 : Int).fdiv (Int.gcd 1 1 : Int) * 1) = 1
    have e : (1 : Int).fdiv (Int.gcd 1 1 : Int) * 1 = 1 := by decide
    rw [e]
    exact ih fun y hy => h y (List.mem_cons_of_mem _ hy)
theorem wrT_one {r : List (Int × Int)} (h : ∀ x ∈ r, x.2 = 1) : wrT r = r.map (·.1) := by
  unfold wrT
  rw [wrB_one h]
  refine List.map_congr_left fun x hx => ?_
  rw [h x hx]
  show x.1 * (1 : Int).fdiv 1 = x.1
  rw [show (1 : Int).fdiv 1 = 1 from by decide, Int.mul_one]
end Fm

namespace Fm
open PySem PySem.Spec PyProof.Rows L2
def rTupOf (K : PySem.W.Frag) : List V → Hp → VK → Prop := fun xs H Q => ∃ p ys, xs = [.ref p] ∧ ((SqL K H p ys ∧ ∀ l, H l = none → Q (.ref l) (upd H l (.tup ys))) ∨ (SqT K H p ys ∧ Q (.ref p) H))
theorem call_tupOf {X : Cx} : CallR X (.type "tuple") (rTupOf X.K) := call_tuple_of
theorem w_tupOf2 {K : PySem.W.Frag} {H : Hp} {Q : VK} {p : Addr} {ys : List V} (h : H p = some (.lst ys)) (q : NewO (.tup ys) H Q) : rTupOf K [.ref p] H Q := ⟨p, ys, rfl, .inl ⟨SqL.of h, q⟩⟩
theorem fmod_mul {g a b : Int} (hg : 0 < g) : (a.fmod g * b).fmod g = (a * b).fmod g := by
  rw [fmod_pos _ hg, fmod_pos _ hg, fmod_pos _ hg, Int.mul_emod, Int.emod_emod_of_dvd _ (Int.dvd_refl g), ← Int.mul_emod]
theorem fmod_mul2 {g a b : Int} (hg : 0 < g) : (a * b.fmod g).fmod g = (a * b).fmod g := by
  rw [Int.mul_comm, fmod_mul hg, Int.mul_comm]
theorem fmod_of_lt {g a : Int} (h0 : 0 ≤ a) (h1 : a < g) : a.fmod g = a := by
  rw [fmod_pos _ (by omega), Int.emod_eq_of_lt h0 h1]
/-- over what has a back on the wheel -/
theorem low_inv {g u d f : Int} (hg : 0 < g) (hf : (f * d).fmod g = 1) : lowF g u d = ((u * f).fmod g, 1) := by
  have h0 : 0 ≤ (u * f).fmod g := Int.fmod_nonneg_of_pos _ hg
  have h1 : (u * f).fmod g < g := Int.fmod_lt_of_pos _ hg
  have ee : ∀ z : Int, (z * (f * d)).fmod g = z.fmod g := fun z => by
    rw [← fmod_mul2 hg, hf, Int.mul_one]
  have e : lowI g u d = some ((u * f).fmod g).toNat := by
    unfold lowI
    rw [if_pos hg]
    refine List.find?_range_eq_some.mpr ⟨decide_eq_true ?_, List.mem_range.mpr (by omega), fun j hj => ?_⟩
    · rw [show ((((u * f).fmod g).toNat : Nat) : Int) = (u * f).fmod g by omega, fmod_mul hg, Int.mul_assoc]
      exact ee u
    · have : ¬ ((j : Int) * d).fmod g = u.fmod g := fun z => by
        have h2 : ((j : Int) * d * f).fmod g = (u * f).fmod g := by
          rw [← fmod_mul hg, z, fmod_mul hg]
        have h3 : ((j : Int) * d * f).fmod g = (j : Int) := by
          rw [Int.mul_assoc, Int.mul_comm d f, ee, fmod_of_lt (by omega) (by omega)]
        omega
      rw [decide_eq_false this]
      rfl
  unfold lowF
  rw [e]
  show ((((u * f).fmod g).toNat : Int), (1 : Int)) = _
  rw [show ((((u * f).fmod g).toNat : Nat) : Int) = (u * f).fmod g by omega]
/-- a number of a ground, of less than k bits -/
def OkN (g : Int) (k : Nat) (a : Int × Int) : Prop := a.1.natAbs < 2 ^ k ∧ a.2.natAbs < 2 ^ k ∧ ((g = 0 ∧ 0 < a.2) ∨ (3 ≤ g ∧ g ≤ 13 ∧ a.2 = 1))
theorem OkN.pos {g : Int} {k : Nat} {a : Int × Int} (h : OkN g k a) : 0 < a.2 := by
  rcases h.2.2 with h | h
  · exact h.2
  · omega
theorem step_le {b c : Int} {k m : Nat} (hb : 0 < b) (hc : 0 < c) (h1 : b.natAbs ≤ 2 ^ m) (h2 : c.natAbs < 2 ^ k) : (b.fdiv (Int.gcd b c : Int) * c).natAbs ≤ 2 ^ (m + k) ∧ (b.fdiv (Int.gcd b c : Int)).natAbs ≤ 2 ^ m ∧ (Int.gcd b c : Int) ≠ 0 ∧ ((Int.gcd b c : Int)).natAbs < 2 ^ k := by
  have hg : 0 < Int.gcd b c := Nat.pos_of_ne_zero fun z => by
    have := (Int.gcd_eq_zero_iff.mp z).2
    omega
  have hle : (b.fdiv (Int.gcd b c : Int)).natAbs ≤ b.natAbs := by
    obtain ⟨q, e⟩ := Int.gcd_dvd_left b c
    have f1 : b.fdiv (Int.gcd b c : Int) = q := by
      conv => lhs; lhs; rw [e]
      exact Int.mul_fdiv_cancel_left _ (by omega)
    rw [f1]
    have := natAbs_fac (c := (Int.gcd b c : Int)) (q := q) (by omega)
    rw [← e] at this
    exact this
  have hgc : (Int.gcd b c : Int) ≤ c := Int.le_of_dvd hc (Int.gcd_dvd_right b c)
  refine ⟨?_, Nat.le_trans hle h1, by omega, by omega⟩
  rw [Int.natAbs_mul, Nat.pow_add]
  exact Nat.mul_le_mul (Nat.le_trans hle h1) (Nat.le_of_lt h2)
theorem wrB_take {r : List (Int × Int)} {i : Nat} {x : Int × Int} (h : r[i]? = some x) : wrB (r.take (i + 1)) = (wrB (r.take i)).fdiv (Int.gcd (wrB (r.take i)) x.2 : Int) * x.2 := by
  unfold wrB
  rw [List.take_add_one, h]
  simp [List.foldl_append]
theorem wrB_le {k : Nat} : ∀ (r : List (Int × Int)) (b : Int) (m : Nat), 0 < b → b.natAbs ≤ 2 ^ m → (∀ x ∈ r, 0 < x.2 ∧ x.2.natAbs < 2 ^ k) → (r.foldl (fun b x => b.fdiv (Int.gcd b x.2 : Int) * x.2) b).natAbs ≤ 2 ^ (m + k * r.length)
  | [], b, m, _, h, _ => by simpa using h
  | x :: r, b, m, hb, h, hr => by
    have hx := hr x (List.mem_cons_self ..)
    have s := step_le hb hx.1 h hx.2
    rw [List.foldl_cons]
    have := wrB_le r _ (m + k) (lcm_step hb hx.1).1 s.1 fun y hy => hr y (List.mem_cons_of_mem _ hy)
    rw [show m + k * (x :: r).length = m + k + k * r.length by rw [List.length_cons, Nat.mul_succ]; omega]
    exact this
theorem wrB_bd {k : Nat} {r : List (Int × Int)} (h : ∀ x ∈ r, 0 < x.2 ∧ x.2.natAbs < 2 ^ k) : (wrB r).natAbs ≤ 2 ^ (k * r.length) := by
  have := wrB_le r 1 0 (by decide) (by decide) h
  rw [Nat.zero_add] at this
  exact this
theorem w_aug {i : Nat} {te : TE} {ti : TIp} {D : Ends} {σ : L2.St} {H : Hp} {x : V} (h : σ[i]? = some (some x)) (q : te σ H fun y H1 => ti x y H1 fun z H2 => D.nx (σ.set i (some z)) H2) : tAug i te ti D σ H := ⟨x, h, q⟩
/-- a row as whole numbers over one bottom, as an object -/
def WR (H : Hp) (v : V) (ts : List Int) (B : Int) : Prop := ∃ p L, v = .ref p ∧ H p = some (.tup [.ref L, .int B]) ∧ H L = some (.lst (ts.map V.int))
theorem WR.sm {H H' : Hp} {v : V} {ts : List Int} {B : Int} (h : WR H v ts B) (s : Same H H') : WR H' v ts B := by
  obtain ⟨p, L, e, h1, h2⟩ := h
  exact ⟨p, L, e, s _ _ h1, s _ _ h2⟩
theorem le_lt {a : Int} {k m : Nat} (h : a.natAbs ≤ 2 ^ k) (hk : k < m) : a.natAbs < 2 ^ m := Nat.lt_of_le_of_lt h (Nat.pow_lt_pow_right (by decide) hk)
theorem mulW_le {a b : Int} {k m : Nat} (h1 : a.natAbs ≤ 2 ^ k) (h2 : b.natAbs ≤ 2 ^ m) (hk : k + m ≤ 100000) : CMulW a b := wide_mul (a := k + 1) (b := m + 1) (le_lt h1 (by omega)) (le_lt h2 (by omega)) (by omega) (by omega) (by omega)
/-! ### what is gathered, item by item -/
def Acc {α : Type} (P : Hp → V → α → Prop) (H : Hp) (ys : List V) (as : List α) (i : Nat) : Prop := ys.length = i ∧ ∀ (j : Nat) (x : V) (a : α), ys[j]? = some x → as[j]? = some a → P H x a
theorem Acc.nil {α : Type} {P : Hp → V → α → Prop} {H : Hp} {as : List α} : Acc P H [] as 0 := ⟨rfl, fun j x a h _ => by simp at h⟩
theorem Acc.mono {α : Type} {P : Hp → V → α → Prop} {H H' : Hp} {ys : List V} {as : List α} {i : Nat} (h : Acc P H ys as i) (f : ∀ x a, P H x a → P H' x a) : Acc P H' ys as i := ⟨h.1, fun j x a h1 h2 => f x a (h.2 j x a h1 h2)⟩
theorem Acc.snoc {α : Type} {P : Hp → V → α → Prop} {H : Hp} {ys : List V} {as : List α} {i : Nat} {v : V} {a : α} (h : Acc P H ys as i) (ha : as[i]? = some a) (hv : P H v a) : Acc P H (ys ++ [v]) as (i + 1) := by
  refine ⟨by rw [List.length_append, h.1]; rfl, fun j x b h1 h2 => ?_⟩
  by_cases hj : j < ys.length
  · rw [List.getElem?_append_left hj] at h1
    exact h.2 j x b h1 h2
  · rw [List.getElem?_append_right (by omega)] at h1
    have e : j - ys.length = 0 := by
      have := (List.getElem?_eq_some_iff.mp h1).1
      rw [List.length_singleton] at this
      omega
    rw [e] at h1
    cases Option.some.inj h1
    have e2 : j = i := by have := h.1; omega
    rw [e2, ha] at h2
    cases Option.some.inj h2
    exact hv
theorem Acc.sq {α : Type} {P : Hp → V → α → Prop} {H : Hp} {ys : List V} {as : List α} {i : Nat} {p : Addr} (h : Acc P H ys as i) (hi : i = as.length) (hp : H p = some (.tup ys)) : SqV P H (.ref p) as := ⟨p, ys, rfl, hp, by rw [h.1, hi], h.2⟩
/-- such a row whose list is another one than the one at D -/
def WRn (D : Addr) (H : Hp) (v : V) (s : List (Int × Int)) : Prop := ∃ p L, v = .ref p ∧ L ≠ D ∧ H p = some (.tup [.ref L, .int (wrB s)]) ∧ H L = some (.lst ((wrT s).map V.int))
theorem WRn.sm {D : Addr} {H H' : Hp} {v : V} {s : List (Int × Int)} (h : WRn D H v s) (e : Same H H') : WRn D H' v s := by
  obtain ⟨p, L, e1, n, h1, h2⟩ := h
  exact ⟨p, L, e1, n, e _ _ h1, e _ _ h2⟩
theorem WRn.upd {D : Addr} {H : Hp} {v : V} {s : List (Int × Int)} {xs : List V} {o : HO} (h : WRn D H v s) (hD : H D = some (.lst xs)) : WRn D (upd H D o) v s := by
  obtain ⟨p, L, e1, n, h1, h2⟩ := h
  exact ⟨p, L, e1, n, Kt.updL hD _ _ h1, by rw [upd_ne n]; exact h2⟩
def turnF (l : Nat) (t : List (List (Int × Int))) : List (List (Int × Int)) := (List.range l).map fun j => t.map fun row => row.getD j (0, 1)
theorem turn_at {l j : Nat} {t : List (List (Int × Int))} (h : j < l) : (turnF l t)[j]? = some (t.map fun row => row.getD j (0, 1)) := by
  unfold turnF
  rw [List.getElem?_map, List.getElem?_range h]
  rfl
theorem wrT_len (r : List (Int × Int)) : (wrT r).length = r.length := by
  unfold wrT
  rw [List.length_map]
end Fm

namespace Fm
open PySem PySem.Spec PyProof.Rows L2
/-! ### things of some depth, their whole numbers of less than k bits -/
def AtB (k : Nat) : V → Prop
  | .int i => i.natAbs < 2 ^ k
  | .non => True
  | .bl _ => True
  | .str _ => True
  | _ => False
theorem AtB.atom {k : Nat} {v : V} (h : AtB k v) : atomB v = true := by
  cases v <;> first | rfl | cases h
def IsL (H : Hp) (v : V) : Prop := ∃ p xs, v = .ref p ∧ H p = some (.lst xs)
def TB (k : Nat) : Nat → Hp → V → Prop
  | 0, H, v => AtB k v ∨ IsL H v
  | n + 1, H, v => AtB k v ∨ IsL H v ∨ ∃ p xs, v = .ref p ∧ H p = some (.tup xs) ∧ xs.length ≤ 100 ∧ ∀ x ∈ xs, TB k n H x
theorem IsL.kd {H H' : Hp} {v : V} (h : IsL H v) (e : Kd H H') : IsL H' v := by
  obtain ⟨p, xs, e1, h1⟩ := h
  obtain ⟨ys, h2⟩ := e.2 p xs h1
  exact ⟨p, ys, e1, h2⟩
theorem TB.kd {k : Nat} {H H' : Hp} (e : Kd H H') : ∀ {n : Nat} {v : V}, TB k n H v → TB k n H' v
  | 0, v, h => by
    rcases h with h | h
    · exact .inl h
    · exact .inr (h.kd e)
  | n + 1, v, h => by
    rcases h with h | h | ⟨p, xs, e1, h1, hz, hx⟩
    · exact .inl h
    · exact .inr (.inl (h.kd e))
    · exact .inr (.inr ⟨p, xs, e1, e.1 _ _ h1, hz, fun x m => TB.kd e (hx x m)⟩)
theorem TB.up {k : Nat} {H : Hp} : ∀ {n : Nat} {v : V}, TB k n H v → TB k (n + 1) H v
  | 0, v, h => by
    rcases h with h | h
    · exact .inl h
    · exact .inr (.inl h)
  | n + 1, v, h => by
    rcases h with h | h | ⟨p, xs, e1, h1, hz, hx⟩
    · exact .inl h
    · exact .inr (.inl h)
    · exact .inr (.inr ⟨p, xs, e1, h1, hz, fun x m => TB.up (hx x m)⟩)
theorem TB.wide {k l : Nat} {H : Hp} (hl : k ≤ l) : ∀ {n : Nat} {v : V}, TB k n H v → TB l n H v
  | 0, v, h => by
    rcases h with h | h
    · left; cases v <;> first | exact Nat.lt_of_lt_of_le h (Nat.pow_le_pow_right (by decide) hl) | exact h
    · exact .inr h
  | n + 1, v, h => by
    rcases h with h | h | ⟨p, xs, e1, h1, hz, hx⟩
    · left; cases v <;> first | exact Nat.lt_of_lt_of_le h (Nat.pow_le_pow_right (by decide) hl) | exact h
    · exact .inr (.inl h)
    · exact .inr (.inr ⟨p, xs, e1, h1, hz, fun x m => TB.wide hl (hx x m)⟩)
theorem TB.tup {k n : Nat} {H : Hp} {p : Addr} {xs : List V} (h : H p = some (.tup xs)) (hz : xs.length ≤ 100) (hx : ∀ x ∈ xs, TB k n H x) : TB k (n + 1) H (.ref p) := .inr (.inr ⟨p, xs, rfl, h, hz, hx⟩)
theorem TB.lst {k n : Nat} {H : Hp} {p : Addr} {xs : List V} (h : H p = some (.lst xs)) : TB k n H (.ref p) := by
  cases n with
  | zero => exact .inr ⟨p, xs, rfl, h⟩
  | succ n => exact .inr (.inl ⟨p, xs, rfl, h⟩)
theorem TB.at {k n : Nat} {H : Hp} {v : V} (h : AtB k v) : TB k n H v := by
  cases n with
  | zero => exact .inl h
  | succ n => exact .inl h
/-- its kind is known -/
def Tv (H : Hp) (v : V) : Prop := atomB v = true ∨ IsL H v ∨ ∃ p xs, v = .ref p ∧ H p = some (.tup xs)
theorem TB.tv {k n : Nat} {H : Hp} {v : V} (h : TB k n H v) : Tv H v := by
  cases n with
  | zero =>
    rcases h with h | h
    · exact .inl h.atom
    · exact .inr (.inl h)
  | succ n =>
    rcases h with h | h | ⟨p, xs, e1, h1, _⟩
    · exact .inl h.atom
    · exact .inr (.inl h)
    · exact .inr (.inr ⟨p, xs, e1, h1⟩)
theorem Tv.ty {K : PySem.W.Frag} {H : Hp} {v : V} (h : Tv H v) : TyX K H v (.type (tyN H v)) := by
  rcases h with h | ⟨p, xs, rfl, h⟩ | ⟨p, xs, rfl, h⟩
  · cases v with
    | non => exact .base .non
    | bl b => exact .base (.bl b)
    | int i => exact .base (.int i)
    | str z => exact .base (.str z)
    | _ => cases h
  · have e : tyN H (.ref p) = "list" := by show tyAt (H p) = _; rw [h]; rfl
    rw [e]
    exact .base (.lst h)
  · have e : tyN H (.ref p) = "tuple" := by show tyAt (H p) = _; rw [h]; rfl
    rw [e]
    exact .base (.tup h)
theorem tv_int {K : PySem.W.Frag} {H : Hp} {Q : VK} {v : V} (h : Tv H v) (q : Q (.bl (intB v)) H) : rIsi K [v, .ty "int"] H Q := by
  refine isi_is h.ty ?_ q
  rcases h with h | ⟨p, xs, rfl, h⟩ | ⟨p, xs, rfl, h⟩
  · cases v with
    | non => show kitB "NoneType" "int" = some false; decide +kernel
    | bl b => show kitB "bool" "int" = some true; decide +kernel
    | int i => show kitB "int" "int" = some true; decide +kernel
    | str z => show kitB "str" "int" = some false; decide +kernel
    | _ => cases h
  · show kitB (tyAt (H p)) _ = _; rw [h]; show kitB "list" "int" = some false; decide +kernel
  · show kitB (tyAt (H p)) _ = _; rw [h]; show kitB "tuple" "int" = some false; decide +kernel
theorem tv_bool {K : PySem.W.Frag} {H : Hp} {Q : VK} {v : V} (h : Tv H v) (q : Q (.bl (blB v)) H) : rIsi K [v, .ty "bool"] H Q := by
  refine isi_is h.ty ?_ q
  rcases h with h | ⟨p, xs, rfl, h⟩ | ⟨p, xs, rfl, h⟩
  · cases v with
    | non => show kitB "NoneType" "bool" = some false; decide +kernel
    | bl b => show kitB "bool" "bool" = some true; decide +kernel
    | int i => show kitB "int" "bool" = some false; decide +kernel
    | str z => show kitB "str" "bool" = some false; decide +kernel
    | _ => cases h
  · show kitB (tyAt (H p)) _ = _; rw [h]; show kitB "list" "bool" = some false; decide +kernel
  · show kitB (tyAt (H p)) _ = _; rw [h]; show kitB "tuple" "bool" = some false; decide +kernel
/-- what is no tuple -/
def NoTup (H : Hp) (v : V) : Prop := ∀ p xs, v = .ref p → H p ≠ some (.tup xs)
theorem tb_tup {K : PySem.W.Frag} {k n : Nat} {H : Hp} {Q : VK} {v : V} (h : TB k (n + 1) H v) (q1 : ∀ p xs, v = .ref p → H p = some (.tup xs) → xs.length ≤ 100 → (∀ x ∈ xs, TB k n H x) → Q (.bl true) H) (q2 : NoTup H v → Q (.bl false) H) : rIsi K [v, .ty "tuple"] H Q := by
  have h' := h.tv
  rcases h with h | ⟨p, xs, rfl, h⟩ | ⟨p, xs, rfl, h, hz, hx⟩
  · have ha := h.atom
    refine isi_is h'.ty (b := false) ?_ (q2 fun p xs e => ?_)
    · cases v with
      | non => show kitB "NoneType" "tuple" = some false; decide +kernel
      | bl b => show kitB "bool" "tuple" = some false; decide +kernel
      | int i => show kitB "int" "tuple" = some false; decide +kernel
      | str z => show kitB "str" "tuple" = some false; decide +kernel
      | _ => cases ha
    · rw [e] at ha
      cases ha
  · refine isi_is h'.ty (b := false) ?_ (q2 fun p' xs' e => ?_)
    · show kitB (tyAt (H p)) _ = _; rw [h]; show kitB "list" "tuple" = some false; decide +kernel
    · cases e
      rw [h]
      intro z
      cases z
  · refine isi_is h'.ty (b := true) ?_ (q1 p xs rfl h hz hx)
    show kitB (tyAt (H p)) _ = _; rw [h]; show kitB "tuple" "tuple" = some true; decide +kernel
theorem numOf_no {H : Hp} {g : Int} {v : V} (h : NoTup H v) : numOf H g v = false := by
  cases v with
  | ref p =>
    show numAt g (H p) = false
    cases e : H p with
    | none => rfl
    | some o =>
      cases o with
      | tup xs => exact absurd e (h p xs rfl)
      | _ => rfl
  | _ => rfl
theorem numOf_tb {k n : Nat} {H H' : Hp} {g : Int} {v : V} (h0 : TB k n H v) (e : Kd H H') : numOf H' g v = numOf H g v := by
  rcases h0.tv with h | ⟨p, xs, rfl, h⟩ | ⟨p, xs, rfl, h⟩
  · cases v <;> first | rfl | cases h
  · obtain ⟨ys, h2⟩ := e.2 p xs h
    rw [numOf_lst h, numOf_lst h2]
  · rw [numOf_tup h, numOf_tup (e.1 _ _ h)]
/-! ### rows and tables among things -/
def rowAt (H : Hp) (g m : Int) : Option HO → Bool
  | some (.tup xs) => decide ((xs.length : Int) = m) && xs.all (numOf H g)
  | _ => false
def rowOf (H : Hp) (g m : Int) : V → Bool
  | .ref p => rowAt H g m (H p)
  | _ => false
theorem rowOf_tup {H : Hp} {g m : Int} {p : Addr} {xs : List V} (h : H p = some (.tup xs)) : rowOf H g m (.ref p) = (decide ((xs.length : Int) = m) && xs.all (numOf H g)) := by
  show rowAt H g m (H p) = _
  rw [h]
  rfl
theorem rowOf_no {H : Hp} {g m : Int} {v : V} (h : NoTup H v) : rowOf H g m v = false := by
  cases v with
  | ref p =>
    show rowAt H g m (H p) = false
    cases e : H p with
    | none => rfl
    | some o =>
      cases o with
      | tup xs => exact absurd e (h p xs rfl)
      | _ => rfl
  | _ => rfl
theorem all_congr {f f' : V → Bool} : ∀ {xs : List V}, (∀ x ∈ xs, f' x = f x) → xs.all f' = xs.all f
  | [], _ => rfl
  | x :: xs, h => by
    rw [List.all_cons, List.all_cons, h x (List.mem_cons_self ..), all_congr fun y hy => h y (List.mem_cons_of_mem _ hy)]
theorem notup_kd {k n : Nat} {H H' : Hp} {v : V} (h0 : TB k n H v) (no : NoTup H v) (e : Kd H H') : NoTup H' v := by
  rcases h0.tv with h | ⟨p, xs, rfl, h⟩ | ⟨p, xs, rfl, h⟩
  · intro p xs z
    rw [z] at h
    cases h
  · obtain ⟨ys, h2⟩ := e.2 p xs h
    intro p' xs' z
    cases z
    rw [h2]
    intro z
    cases z
  · exact absurd h (no p xs rfl)
theorem tb_cases {k n : Nat} {H : Hp} {v : V} (h : TB k (n + 1) H v) : NoTup H v ∨ ∃ p xs, v = .ref p ∧ H p = some (.tup xs) ∧ xs.length ≤ 100 ∧ ∀ x ∈ xs, TB k n H x := by
  rcases h with h | ⟨p, xs, rfl, h⟩ | h
  · left
    intro p xs e
    have ha := h.atom
    rw [e] at ha
    cases ha
  · left
    intro p' xs' e
    cases e
    rw [h]
    intro z
    cases z
  · exact .inr h
theorem rowOf_tb {k n : Nat} {H H' : Hp} {g m : Int} {v : V} (h : TB k (n + 1) H v) (e : Kd H H') : rowOf H' g m v = rowOf H g m v := by
  rcases tb_cases h with no | ⟨p, xs, rfl, hp, hz, hx⟩
  · rw [rowOf_no no, rowOf_no (notup_kd h no e)]
  · rw [rowOf_tup hp, rowOf_tup (e.1 _ _ hp), all_congr fun x m => numOf_tb (hx x m) e]
def tabAt (H : Hp) (g m w : Int) : Option HO → Bool
  | some (.tup xs) => decide ((xs.length : Int) = m) && xs.all (rowOf H g w)
  | _ => false
def tabOf (H : Hp) (g m w : Int) : V → Bool
  | .ref p => tabAt H g m w (H p)
  | _ => false
theorem tabOf_tup {H : Hp} {g m w : Int} {p : Addr} {xs : List V} (h : H p = some (.tup xs)) : tabOf H g m w (.ref p) = (decide ((xs.length : Int) = m) && xs.all (rowOf H g w)) := by
  show tabAt H g m w (H p) = _
  rw [h]
  rfl
theorem tabOf_no {H : Hp} {g m w : Int} {v : V} (h : NoTup H v) : tabOf H g m w v = false := by
  cases v with
  | ref p =>
    show tabAt H g m w (H p) = false
    cases e : H p with
    | none => rfl
    | some o =>
      cases o with
      | tup xs => exact absurd e (h p xs rfl)
      | _ => rfl
  | _ => rfl
theorem all_map {f : V → Bool} {xs : List V} : (xs.map f).all id = xs.all f := by
  rw [List.all_map]
  rfl
end Fm

namespace Fm
open PySem PySem.Spec PyProof.Rows L2
/-! ### drawn numbers and their sums -/
def NG (g : Int) (i : Nat) (a : Int × Int) : Prop := 0 < a.2 ∧ a.2 ∣ 2520 ∧ a.1.natAbs ≤ 64 * 2 ^ i * a.2.natAbs ∧ (g = 0 ∨ (3 ≤ g ∧ g ≤ 13 ∧ a.2 = 1))
theorem NG.mono {g : Int} {i j : Nat} {a : Int × Int} (h : NG g i a) (hj : i ≤ j) : NG g j a :=
  ⟨h.1, h.2.1, Nat.le_trans h.2.2.1 (Nat.mul_le_mul_right _ (Nat.mul_le_mul_left _ (Nat.pow_le_pow_right (by decide) hj))), h.2.2.2⟩
theorem NG.ok {g : Int} {i : Nat} {a : Int × Int} (h : NG g i a) (hi : i ≤ 10) : OkN g 40 a := by
  have h2 : a.2 ≤ 2520 := Int.le_of_dvd (by decide) h.2.1
  have h0 := h.1
  have h3 : a.1.natAbs ≤ 64 * 2 ^ 10 * 2520 := Nat.le_trans h.2.2.1 (Nat.mul_le_mul (Nat.mul_le_mul_left _ (Nat.pow_le_pow_right (by decide) hi)) (by omega))
  refine ⟨Nat.lt_of_le_of_lt h3 (by decide), Nat.lt_of_le_of_lt (show a.2.natAbs ≤ 2520 by omega) (by decide), ?_⟩
  rcases h.2.2.2 with z | z
  · exact .inl ⟨z, h.1⟩
  · exact .inr z
theorem ng_low {u d : Int} (hu : u.natAbs ≤ 64) (hd1 : 1 ≤ d) (hd : d ≤ 9) : NG 0 0 (lowF 0 u d) := by
  have hn : d ≠ 0 := by omega
  obtain ⟨hr, he⟩ := low0_red (u := u) hn
  obtain ⟨q1, q2, e, e1, e2⟩ := low0_eq (u := u) hn
  refine ⟨hr.1, ?_, ?_, .inl rfl⟩
  · have h1 : (lowF 0 u d).2 ∣ d := by
      rw [e]
      exact ⟨lowC u d, by rw [Int.mul_comm]; exact e2⟩
    refine Int.dvd_trans h1 ?_
    rcases (by omega : d = 1 ∨ d = 2 ∨ d = 3 ∨ d = 4 ∨ d = 5 ∨ d = 6 ∨ d = 7 ∨ d = 8 ∨ d = 9) with rfl | rfl | rfl | rfl | rfl | rfl | rfl | rfl | rfl <;> decide
  · have h2 := congrArg Int.natAbs he
    rw [Int.natAbs_mul, Int.natAbs_mul] at h2
    have h3 : (lowF 0 u d).1.natAbs * 1 ≤ (lowF 0 u d).1.natAbs * d.natAbs := Nat.mul_le_mul_left _ (by omega)
    rw [Nat.mul_one, h2] at h3
    refine Nat.le_trans h3 ?_
    rw [Nat.pow_zero, Nat.mul_one]
    exact Nat.mul_le_mul_right _ hu
/-- bounds for the operations -/
def PBd (a : Int × Int) : Prop := a.1.natAbs < 2 ^ 3000 ∧ a.2.natAbs < 2 ^ 3000 ∧ a.2 ≠ 0
theorem OkN.pb {g : Int} {k : Nat} {a : Int × Int} (h : OkN g k a) (hk : k ≤ 3000) : PBd a := ⟨Nat.lt_of_lt_of_le h.1 (Nat.pow_le_pow_right (by decide) hk), Nat.lt_of_lt_of_le h.2.1 (Nat.pow_le_pow_right (by decide) hk), by have := h.pos; omega⟩
def NumG (g : Int) (H : Hp) (v : V) (i : Nat) : Prop := ∃ a, NumV H v a ∧ NG g i a
def RowG (g : Int) (H : Hp) (v : V) (n i : Nat) : Prop := ∃ r, RowV H v r ∧ r.length = n ∧ ∀ a ∈ r, NG g i a
def TabG (g : Int) (H : Hp) (v : V) (m n i : Nat) : Prop := ∃ t, TabV H v t ∧ t.length = m ∧ ∀ r ∈ t, r.length = n ∧ ∀ a ∈ r, NG g i a
theorem NumG.kt {g : Int} {H H' : Hp} {v : V} {i : Nat} (h : NumG g H v i) (s : Kt H H') : NumG g H' v i := by
  obtain ⟨a, h1, h2⟩ := h
  exact ⟨a, h1.kt s, h2⟩
theorem RowG.kt {g : Int} {H H' : Hp} {v : V} {n i : Nat} (h : RowG g H v n i) (s : Kt H H') : RowG g H' v n i := by
  obtain ⟨a, h1, h2⟩ := h
  exact ⟨a, RowV.kt h1 s, h2⟩
theorem RowG.mono {g : Int} {H : Hp} {v : V} {n i j : Nat} (h : RowG g H v n i) (hj : i ≤ j) : RowG g H v n j := by
  obtain ⟨a, h1, h2, h3⟩ := h
  exact ⟨a, h1, h2, fun x hx => (h3 x hx).mono hj⟩
theorem TabG.kt {g : Int} {H H' : Hp} {v : V} {m n i : Nat} (h : TabG g H v m n i) (s : Kt H H') : TabG g H' v m n i := by
  obtain ⟨a, h1, h2⟩ := h
  exact ⟨a, TabV.kt h1 s, h2⟩
theorem rowG_mk {g : Int} {H : Hp} {p : Addr} {xs : List V} {n i : Nat} (hp : H p = some (.tup xs)) (hl : xs.length = n) (hx : ∀ x ∈ xs, NumG g H x i) : RowG g H (.ref p) n i := by
  obtain ⟨as, g1, g2, g3⟩ := sq_val (P := NumV) (S := NG g i) (H := H) (xs := xs) hx
  exact ⟨as, ⟨p, xs, rfl, hp, g1, g3⟩, by omega, g2⟩
theorem RowV.dat {K : PySem.W.Frag} {H : Hp} {v : V} {r : List (Int × Int)} (h : RowV H v r) : Dat K H v 2 := by
  obtain ⟨p, xs, rfl, hp, hl, hx⟩ := h
  refine dat_tup hp fun z hz => ?_
  obtain ⟨i, hi, e⟩ := List.mem_iff_getElem.mp hz
  have e1 : xs[i]? = some z := by rw [List.getElem?_eq_getElem hi, e]
  obtain ⟨q, rfl, hq⟩ := hx i z _ e1 (List.getElem?_eq_getElem (by omega))
  refine dat_tup hq fun w hw => ?_
  rcases List.mem_cons.mp hw with rfl | hw
  · exact dat_int
  · rw [List.mem_singleton.mp hw]; exact dat_int
theorem RowG.zeros {g : Int} {H : Hp} {u : Addr} {l : Addr} {n : Nat} (hg : g = 0 ∨ (3 ≤ g ∧ g ≤ 13)) (hu : H u = some (.tup [.int 0, .int 1])) (hl : H l = some (.tup (List.replicate n [V.ref u]).flatten)) : RowG g H (.ref l) n 0 := by
  rw [List.flatten_replicate_singleton] at hl
  refine rowG_mk hl List.length_replicate fun x hx => ?_
  rw [(List.mem_replicate.mp hx).2]
  refine ⟨(0, 1), ⟨u, rfl, hu⟩, by decide, by decide, by decide, ?_⟩
  rcases hg with z | z
  · exact .inl z
  · exact .inr ⟨z.1, z.2, rfl⟩
end Fm

namespace Fm
open PySem PySem.Spec PyProof.Rows L2
/-! ### bent things -/
def NK (kb : Nat) (H : Hp) (v : V) : Prop := ∃ a : Int × Int, NumV H v a ∧ a.1.natAbs < 2 ^ kb ∧ a.2.natAbs < 2 ^ kb
def RK (kb : Nat) (H : Hp) (v : V) : Prop := ∃ p xs, v = .ref p ∧ H p = some (.tup xs) ∧ 0 < xs.length ∧ xs.length ≤ 10 ∧ ∀ x ∈ xs, NK kb H x
def TK (kb : Nat) (H : Hp) (v : V) : Prop := ∃ p xs, v = .ref p ∧ H p = some (.tup xs) ∧ 0 < xs.length ∧ xs.length ≤ 10 ∧ ∀ x ∈ xs, RK kb H x
theorem NK.kt {kb : Nat} {H H' : Hp} {v : V} (h : NK kb H v) (s : Kt H H') : NK kb H' v := by
  obtain ⟨a, h1, h2⟩ := h
  exact ⟨a, h1.kt s, h2⟩
theorem RK.kt {kb : Nat} {H H' : Hp} {v : V} (h : RK kb H v) (s : Kt H H') : RK kb H' v := by
  obtain ⟨p, xs, e, hp, h1, h2, hx⟩ := h
  exact ⟨p, xs, e, s _ _ hp, h1, h2, fun x m => (hx x m).kt s⟩
theorem TK.kt {kb : Nat} {H H' : Hp} {v : V} (h : TK kb H v) (s : Kt H H') : TK kb H' v := by
  obtain ⟨p, xs, e, hp, h1, h2, hx⟩ := h
  exact ⟨p, xs, e, s _ _ hp, h1, h2, fun x m => (hx x m).kt s⟩
theorem lt_up {a : Int} {k l : Nat} (h : a.natAbs < 2 ^ k) (hl : k ≤ l) : a.natAbs < 2 ^ l := Nat.lt_of_lt_of_le h (Nat.pow_le_pow_right (by decide) hl)
theorem NK.tb {kb l : Nat} {H : Hp} {v : V} (h : NK kb H v) (hl : kb ≤ l) : TB l 1 H v := by
  obtain ⟨a, ⟨p, rfl, hp⟩, h1, h2⟩ := h
  refine TB.tup hp (by simp) fun x hx => ?_
  simp only [List.mem_cons, List.not_mem_nil, or_false] at hx
  rcases hx with rfl | rfl
  · exact .inl (lt_up h1 hl)
  · exact .inl (lt_up h2 hl)
theorem RK.tb {kb l : Nat} {H : Hp} {v : V} (h : RK kb H v) (hl : kb ≤ l) : TB l 2 H v := by
  obtain ⟨p, xs, rfl, hp, _, h2, hx⟩ := h
  exact TB.tup hp (by omega) fun x m => (hx x m).tb hl
theorem TK.tb {kb l : Nat} {H : Hp} {v : V} (h : TK kb H v) (hl : kb ≤ l) : TB l 3 H v := by
  obtain ⟨p, xs, rfl, hp, _, h2, hx⟩ := h
  exact TB.tup hp (by omega) fun x m => (hx x m).tb hl
theorem TB.a {k n : Nat} {H : Hp} {i : Int} (h : i.natAbs < 2 ^ k) : TB k n H (.int i) := TB.at h
theorem RowG.rk {g : Int} {H : Hp} {v : V} {n i kb : Nat} (h : RowG g H v n i) (hi : i ≤ 10) (hk : 40 ≤ kb) (hn : 0 < n) (hn2 : n ≤ 10) : RK kb H v := by
  obtain ⟨r, ⟨p, xs, e, hp, hl, hx⟩, hr, hg⟩ := h
  refine ⟨p, xs, e, hp, by omega, by omega, fun x m => ?_⟩
  obtain ⟨j, hj, ej⟩ := List.mem_iff_getElem.mp m
  have e1 : xs[j]? = some x := by rw [List.getElem?_eq_getElem hj, ej]
  have e2 : r[j]? = some (r[j]'(by omega)) := List.getElem?_eq_getElem (by omega)
  have ok := (hg _ (List.getElem_mem (show j < r.length by omega))).ok hi
  exact ⟨_, hx j x _ e1 e2, lt_up ok.1 hk, lt_up ok.2.1 hk⟩
theorem TabG.tk {g : Int} {H : Hp} {v : V} {m n i kb : Nat} (h : TabG g H v m n i) (hi : i ≤ 10) (hk : 40 ≤ kb) (hm : 0 < m) (hm2 : m ≤ 10) (hn : 0 < n) (hn2 : n ≤ 10) : TK kb H v := by
  obtain ⟨t, ⟨p, xs, e, hp, hl, hx⟩, ht, hg⟩ := h
  refine ⟨p, xs, e, hp, by omega, by omega, fun x mm => ?_⟩
  obtain ⟨j, hj, ej⟩ := List.mem_iff_getElem.mp mm
  have e1 : xs[j]? = some x := by rw [List.getElem?_eq_getElem hj, ej]
  have e2 : t[j]? = some (t[j]'(by omega)) := List.getElem?_eq_getElem (by omega)
  have hh := hg _ (List.getElem_mem (show j < t.length by omega))
  exact RowG.rk ⟨_, hx j x _ e1 e2, hh.1, hh.2⟩ hi hk hn hn2
theorem w_sl {r : V → Option Int → Option Int → Hp → VK → Prop} {te : TE} {tl th : TO} {σ : L2.St} {H : Hp} {Q : VK} (h : te σ H fun x H1 => tl σ H1 fun l H2 => th σ H2 fun u H3 => r x l u H3 Q) : tSl r te tl th σ H Q := h
theorem w_part {te : TE} {σ : L2.St} {H : Hp} {R : Option Int → Hp → Prop} (h : te σ H fun x H1 => ∃ i, x = .int i ∧ R (some i) H1) : tPart te σ H R := h
theorem w_nopart {σ : L2.St} {H : Hp} {R : Option Int → Hp → Prop} (h : R none H) : tNoPart σ H R := h
theorem w_exi {a : Int} {R : Int → Prop} (h : R a) : ∃ i, V.int a = .int i ∧ R i := ⟨a, rfl, h⟩
end Fm

namespace Fm
open PySem PySem.Spec PyProof.Rows L2
/-! ### tables as data -/
def numD (a : Int × Int) : PyData := .tuple [.int a.1, .int a.2]
def rowD (r : List (Int × Int)) : PyData := .tuple (r.map numD)
theorem dpAll_of {α : Type} {K : PySem.W.Frag} {H : Hp} {f : α → PyData} : ∀ {xs : List V} {as : List α}, xs.length = as.length → (∀ (i : Nat) (x : V) (a : α), xs[i]? = some x → as[i]? = some a → Dp K H x (f a)) → DpAll K H xs (as.map f)
  | [], [], _, _ => .nil
  | [], _ :: _, h, _ => by cases h
  | _ :: _, [], h, _ => by cases h
  | x :: xs, a :: as, h, hx => .cons (hx 0 x a rfl rfl) (dpAll_of (by simpa using h) fun i y b h1 h2 => hx (i + 1) y b h1 h2)
theorem NumV.dp {K : PySem.W.Frag} {H : Hp} {v : V} {a : Int × Int} (h : NumV H v a) : Dp K H v (numD a) := by
  obtain ⟨p, rfl, hp⟩ := h
  exact .tup (SqT.of hp) (.cons (.int _) (.cons (.int _) .nil))
theorem RowV.dp {K : PySem.W.Frag} {H : Hp} {v : V} {r : List (Int × Int)} (h : RowV H v r) : Dp K H v (rowD r) := by
  obtain ⟨p, xs, rfl, hp, hl, hx⟩ := h
  exact .tup (SqT.of hp) (dpAll_of hl fun i x a h1 h2 => (hx i x a h1 h2).dp)
theorem TabV.dp {K : PySem.W.Frag} {H : Hp} {v : V} {t : List (List (Int × Int))} (h : TabV H v t) : Dp K H v (.tuple (t.map rowD)) := by
  obtain ⟨p, xs, rfl, hp, hl, hx⟩ := h
  exact .tup (SqT.of hp) (dpAll_of hl fun i x a h1 h2 => RowV.dp (hx i x a h1 h2))
theorem lay_num : ∀ (r : List (Int × Int)), PyData.canLayAll0 (r.map numD) = true ∧ PyData.depthAll (r.map numD) ≤ 1
  | [] => ⟨by simp [PyData.canLayAll0], by simp [PyData.depthAll]⟩
  | a :: r => by
    have ih := lay_num r
    refine ⟨?_, ?_⟩
    · rw [List.map_cons, PyData.canLayAll0, ih.1]
      simp [numD, PyData.canLay0, PyData.canLayAll0]
    · rw [List.map_cons, PyData.depthAll]
      have : (numD a).depth ≤ 1 := by simp [numD, PyData.depth, PyData.depthAll]
      have := ih.2
      omega
theorem lay_row : ∀ (t : List (List (Int × Int))), PyData.canLayAll0 (t.map rowD) = true ∧ PyData.depthAll (t.map rowD) ≤ 2
  | [] => ⟨by simp [PyData.canLayAll0], by simp [PyData.depthAll]⟩
  | r :: t => by
    have ih := lay_row t
    have h := lay_num r
    refine ⟨?_, ?_⟩
    · rw [List.map_cons, PyData.canLayAll0, ih.1]
      simp [rowD, PyData.canLay0, h.1]
    · rw [List.map_cons, PyData.depthAll]
      have : (rowD r).depth ≤ 2 := by rw [rowD, PyData.depth]; have := h.2; omega
      have := ih.2
      omega
theorem w_neTab {K : PySem.W.Frag} {H : Hp} {Q : VK} {v v' : V} {t t' : List (List (Int × Int))} (h1 : TabV H v t) (h2 : TabV H v' t') (e : t = t') (q : Q (.bl false) H) : rNeD K v v' H Q := by
  subst e
  have l := lay_row t
  have c : PyData.canLay0 (.tuple (t.map rowD)) = true := by rw [PyData.canLay0]; exact l.1
  have d : PyData.depth (.tuple (t.map rowD)) ≤ 64 := by rw [PyData.depth]; have := l.2; omega
  refine ⟨_, _, TabV.dp h1, TabV.dp h2, shaped_of c d, shaped_of c d, ?_⟩
  rw [SeqAt.eqv_refl _ c]
  exact q
theorem turn_len {l : Nat} {t : List (List (Int × Int))} : (turnF l t).length = l := by
  unfold turnF
  rw [List.length_map, List.length_range]
theorem NumV.nk {H : Hp} {v : V} {a : Int × Int} {k : Nat} (h : NumV H v a) (h1 : a.1.natAbs < 2 ^ k) (h2 : a.2.natAbs < 2 ^ k) : TB k 1 H v := NK.tb ⟨a, h, h1, h2⟩ (Nat.le_refl _)
theorem RowV.tb {H : Hp} {v : V} {r : List (Int × Int)} {k : Nat} (h : RowV H v r) (hl : r.length ≤ 100) (hb : ∀ a ∈ r, a.1.natAbs < 2 ^ k ∧ a.2.natAbs < 2 ^ k) : TB k 2 H v := by
  obtain ⟨p, xs, rfl, hp, hlx, hx⟩ := h
  refine TB.tup hp (by omega) fun x m => ?_
  obtain ⟨j, hj, ej⟩ := List.mem_iff_getElem.mp m
  have e1 : xs[j]? = some x := by rw [List.getElem?_eq_getElem hj, ej]
  have e2 : r[j]? = some (r[j]'(by omega)) := List.getElem?_eq_getElem (by omega)
  have b := hb _ (List.getElem_mem (show j < r.length by omega))
  exact (hx j x _ e1 e2).nk b.1 b.2
theorem TabV.tb {H : Hp} {v : V} {t : List (List (Int × Int))} {k : Nat} (h : TabV H v t) (hl : t.length ≤ 100) (hb : ∀ r ∈ t, r.length ≤ 100 ∧ ∀ a ∈ r, a.1.natAbs < 2 ^ k ∧ a.2.natAbs < 2 ^ k) : TB k 3 H v := by
  obtain ⟨p, xs, rfl, hp, hlx, hx⟩ := h
  refine TB.tup hp (by omega) fun x m => ?_
  obtain ⟨j, hj, ej⟩ := List.mem_iff_getElem.mp m
  have e1 : xs[j]? = some x := by rw [List.getElem?_eq_getElem hj, ej]
  have e2 : t[j]? = some (t[j]'(by omega)) := List.getElem?_eq_getElem (by omega)
  have b := hb _ (List.getElem_mem (show j < t.length by omega))
  exact RowV.tb (hx j x _ e1 e2) b.1 b.2
theorem row_true {H : Hp} {v : V} {r : List (Int × Int)} {g m : Int} (h : RowV H v r) (hl : (r.length : Int) = m) (hn : ∀ a ∈ r, numOk g [.int a.1, .int a.2] = true) : rowOf H g m v = true := by
  obtain ⟨p, xs, rfl, hp, hlx, hx⟩ := h
  rw [rowOf_tup hp, decide_eq_true (by omega), Bool.true_and, List.all_eq_true]
  intro x mm
  obtain ⟨j, hj, ej⟩ := List.mem_iff_getElem.mp mm
  have e1 : xs[j]? = some x := by rw [List.getElem?_eq_getElem hj, ej]
  have e2 : r[j]? = some (r[j]'(by omega)) := List.getElem?_eq_getElem (by omega)
  obtain ⟨q, rfl, hq⟩ := hx j x _ e1 e2
  rw [numOf_tup hq]
  exact hn _ (List.getElem_mem (show j < r.length by omega))
theorem tab_true {H : Hp} {v : V} {t : List (List (Int × Int))} {g m w : Int} (h : TabV H v t) (hl : (t.length : Int) = m) (hn : ∀ r ∈ t, (r.length : Int) = w ∧ ∀ a ∈ r, numOk g [.int a.1, .int a.2] = true) : tabOf H g m w v = true := by
  obtain ⟨p, xs, rfl, hp, hlx, hx⟩ := h
  rw [tabOf_tup hp, decide_eq_true (by omega), Bool.true_and, List.all_eq_true]
  intro x mm
  obtain ⟨j, hj, ej⟩ := List.mem_iff_getElem.mp mm
  have e1 : xs[j]? = some x := by rw [List.getElem?_eq_getElem hj, ej]
  have e2 : t[j]? = some (t[j]'(by omega)) := List.getElem?_eq_getElem (by omega)
  have b := hn _ (List.getElem_mem (show j < t.length by omega))
  exact row_true (hx j x _ e1 e2) b.1 b.2
end Fm

namespace Fm
open PySem PySem.Spec PyProof.Rows L2
/-! ### whole roots -/
def RootOf (n r : Nat) : Prop := r * r ≤ n ∧ n < (r + 1) * (r + 1)
end Fm

namespace Fm
open PySem PySem.Spec PyProof.Rows L2
section
variable {prog : Program} {w : World} {A : Around} {E : Value → Shared → Prop} {s : Shared}
end
end Fm

namespace Fm
open PySem PySem.Spec PyProof.Rows L2
/-- [elt for target in a list if ..] while an exception is handled: D the new list, W by the turn -/
def tLcH (K : PySem.W.Frag) (ti : TE) (g : TG) (tt : TT) (te : TE) (vs : List Nat) : TE := fun σ H Q => ti σ H fun v H1 => ∃ (a : Addr) (xs : List V), v = .ref a ∧ SqL K H1 a xs ∧ ∀ D, H1 D = none → ∃ W : Nat → Hp → Prop,
  W 0 (upd H1 D (.lst [])) ∧ (∀ i H', W i H' → SqL K H' a xs) ∧ (∀ H', W xs.length H' → Q (.ref D) H') ∧ ∀ i x H', xs[i]? = some x → W i H' → g x (wipe σ vs) H' fun σ2 H2 => wipe σ2 vs = wipe σ vs ∧ tt σ2 H2 fun b H3 =>
    if b = true then te σ2 H3 fun y H4 => ∃ acc, H4 D = some (.lst acc) ∧ acc.length < sizeLine ∧ W (i + 1) (upd H4 D (.lst (acc ++ [y]))) else W (i + 1) H3
/-- the block's context: the handled exception is pinned in it -/
abbrev blkH (X : Cx) (p : Addr × Obj) (s : Shared) (H : Hp) (scope : Scope) (cenv : Env) (fp : List Addr) : Cx := (X.blk s H scope cenv fp).tr [p] (fun _ _ => False)
section
variable {X : Cx}
end
end Fm

namespace Fm
open PySem PySem.Spec PyProof.Rows L2
section
variable {X : Cx}
/-- an exception that came out of a try's body, looked at by its clauses: sI is the state without it -/
structure Gd (X : Cx) (pins : List (Addr × Obj)) (σ : L2.St) (H : Hp) (B : Heap) (sI : Shared) (a : Addr) (cls : Value) (d : Option Addr) (s : Shared) : Prop where
  inv : Inv X pins σ H sI
  nb : ∀ b o, sI.heap.get? b = some o → b ∉ frs X.stack → B.get? b = some o
  up : sI.heap.UpToSlots s.heap
  fl : HandSPX.FlyingZ B (X.env :: X.outer) a (L2N.Zn cls d) s.heap
  na : H a = none
  os : s.os = sI.os
  ag : AllBare s.gens
theorem Gd.at {pins : List (Addr × Obj)} {σ : L2.St} {H : Hp} {B : Heap} {sI s : Shared} {a : Addr} {cls : Value} {d : Option Addr} (G : Gd X pins σ H B sI a cls d s) : Inv X pins σ H s := G.inv.landed G.nb G.fl.1 G.up G.os G.ag
theorem Gd.suite {pins : List (Addr × Obj)} {σ : L2.St} {H : Hp} {B : Heap} {sI s : Shared} {a : Addr} {cls : Value} {d : Option Addr} (hf : X.env.frame = some X.env.locals) (G : Gd X pins σ H B sI a cls d s) :
    ∃ (oe : Obj) (vs : Array Value), s.heap.get? a = some oe ∧ L2N.Zn cls d oe ∧ oe.data = .fields vs ∧ Inv (X.suite a ((a, oe) :: (X.pn ++ pins))) [] σ H s := by
  obtain ⟨oe, vs, ge, ze, de⟩ := G.fl.there
  have nf : a ∉ frs (X.env :: X.outer) := fun hm => by
    obtain ⟨_, o', e', hnf⟩ := G.fl.2.2.1.mem hm
    rw [ge] at e'
    cases e'
    exact hnf _ de
  refine ⟨oe, vs, ge, ze, de, G.at.suite ge de G.na (fun z => nf ?_) fun hm => nf ?_⟩
  · exact List.mem_filterMap.mpr ⟨X.env, List.mem_cons_self, by rw [hf, z]⟩
  · obtain ⟨e, he, q⟩ := List.mem_filterMap.mp hm
    exact List.mem_filterMap.mpr ⟨e, List.mem_cons_of_mem _ he, q⟩
/-- the clause's class, asked of it -/
theorem Gd.ask {pins : List (Addr × Obj)} {σ : L2.St} {H : Hp} {B : Heap} {sI s : Shared} {a : Addr} {cls c : Value} {d : Option Addr} {x : Str} {np : Pos} {b : Bool} {R : Bool → Shared → Prop} {E E' : Value → Shared → Prop} (hf : X.env.frame = some X.env.locals) (G : Gd X pins σ H B sI a cls d s) (hc : Names X x c) (hx : PySem.W.exmOne X.K cls c = some b) (q : R b s) :
    wpAny (model X.prog X.w) (X.A.mark (some (.ref a))) (eval (.Name x np) X.env) (fun v s1 => wpAny (model X.prog X.w) (X.A.mark (some (.ref a))) (excMatches (.ref a) v) R E' s1) E s := by
  obtain ⟨oe, vs, ge, ze, de, S⟩ := G.suite hf
  have LT : PySem.W.Looks (model X.prog X.w) s.heap (typeOf (.ref a)) cls := fun A Q E s k q => wpAny_typeOf_ref (k _ _ ge) (by rw [ze.1]; exact q)
  have LM := PySem.W.exm_one (M := model X.prog X.w) G.at.kIn LT hx
  obtain ⟨hg, hdb, hm | ⟨hm, hv, hnn⟩⟩ := hc
  · exact ld_glob (X := X.suite a ((a, oe) :: (X.pn ++ pins))) S hg hm (LM.here q) hdb
  · exact ld_blt (X := X.suite a ((a, oe) :: (X.pn ++ pins))) S hg hm hv (LM.here q) hnn hdb
theorem Gd.again {pins : List (Addr × Obj)} {σ : L2.St} {H : Hp} {B : Heap} {sI s : Shared} {a : Addr} {cls : Value} {d : Option Addr} {M : Model} {A : Around} {E : Value → Shared → Prop} {Q : Unit → Shared → Prop} (G : Gd X pins σ H B sI a cls d s)
    (k : ∀ h', Gd X pins σ H B sI a cls d { s with heap := h' } → Q () { s with heap := h' }) : wpAny M A (setFlight (.ref a) none) Q E s :=
  HandSPX.lands_againZ G.fl fun h' fl' up' => k h' ⟨G.inv, G.nb, G.up.trans up', fl', G.na, G.os, G.ag⟩
/-- the clauses without a name, one after another -/
theorem Gd.plain {pins : List (Addr × Obj)} {σ : L2.St} {H : Hp} {B : Heap} {sI : Shared} {a : Addr} {cls : Value} {d : Option Addr} {D : Ends} {Wout : WX} (hs : X.stack = X.env :: X.outer) (hf : X.env.frame = some X.env.locals) (tk : L2N.Takes X Wout) :
    ∀ {hds : List ExceptHandler} {l : List (Value × (Addr → Value → Option Addr → TS))}, L2N.HdsOk X hds l → ∀ {s : Shared}, Gd X pins σ H B sI a cls d s → wMany X.K Wout D l cls d σ H → wpAny (model X.prog X.w) X.A (handleBy (.ref a) X.env hds) (SP X pins D) X.xe s := by
  intro hds l hk
  induction hk with
  | nil =>
    intro s G wsh
    refine wpAny_handleBy_nil ?_
    obtain ⟨_, _, _, oe, vs, T, oT, ts', he, hz, hd, h1, _⟩ := id G.fl
    have nT : ¬ ((Value.ref T == Value.none) = true) := by simp
    unfold PySem.passOn
    refine wpAny_bind (wpAny_field he hd h1 ?_)
    rw [if_neg nT]
    have on : wpAny (model X.prog X.w) X.A (setFlight (.ref a) X.env.frame) (fun _ s4 => wpAny (model X.prog X.w) X.A (throw (.ref a) : Sem Flow) (SP X pins D) X.xe s4) X.xe s := by
      rw [hf]
      refine HandSPX.setFlight_upZ G.fl fun h4 hh4 up4 => wpAny_throw (tk _ _ ?_)
      exact ⟨a, B, sI, pins, σ, H, cls, d, rfl, G.inv, G.nb, G.up.trans up4, .inr (.inr (by rw [hs]; exact hh4)), G.na, G.os, G.ag, wsh⟩
    first
      | exact wpAny_bind (wpAny_pure (wpAny_bind on))
      | exact wpAny_bind on
  | cons hc hsu r ih =>
    intro s G wsh
    obtain ⟨b, hb1, hyes, hno⟩ := wsh
    refine wpAny_handleBy_cons (codeAny_handlers_test (G.ask hf hc hb1 ?_)) (by intro q; cases q)
    cases b with
    | true =>
      refine codeAny_handlers_suite (G.again fun h' G' => ?_)
      obtain ⟨oe, vs, ge, ze, de, S⟩ := G'.suite hf
      refine wpAny_mono ((hsu a oe cls d (X.pn ++ pins) ze ⟨_, de⟩).run [] _ _ H _ S (hyes rfl a G.na)) (fun f s6 hsp => ?_) fun _ _ z => z.elim
      have ok := G.inv.ok
      cases f with
      | next => exact (let ⟨σ6, H6, S6, q6⟩ := hsp; ⟨σ6, H6, S6.unsuite ok, q6⟩)
      | brk => exact (let ⟨σ6, H6, S6, q6⟩ := hsp; ⟨σ6, H6, S6.unsuite ok, q6⟩)
      | cont => exact (let ⟨σ6, H6, S6, q6⟩ := hsp; ⟨σ6, H6, S6.unsuite ok, q6⟩)
      | ret u => exact (let ⟨v6, σ6, H6, S6, r6, q6⟩ := hsp; ⟨v6, σ6, H6, S6.unsuite ok, r6, q6⟩)
    | false => exact ih G (hno rfl)
end
end Fm

namespace Fm
open PySem PySem.Spec PyProof.Rows L2
/-- what is wanted of an exception that leaves a lambda's frame -/
abbrev lamX (X : Cx) (A : Around) (outer : List Env) (s : Shared) (H : Hp) (E : XK) (scope : Scope) (f c : Addr) : Value → Shared → Prop := fun e s' =>
  wpAny (model X.prog X.w) (A.deeper (LamX.lamEnv X scope s.heap.objs.size f c)) (leaving (LamX.lamEnv X scope s.heap.objs.size f c) e) (fun _ s2 => L2N.CX X.prog X.w outer H s E e s2) (fun e' s2 => L2N.CX X.prog X.w outer H s E e' s2) s'
/-- the context of a lambda's body -/
abbrev lamN (X : Cx) (A : Around) (outer : List Env) (s : Shared) (H : Hp) (E : XK) (scope : Scope) (f c : Addr) : Cx := (LamX.lamCx X A outer s H E scope f c).wish (lamX X A outer s H E scope f c)
section
variable {X : Cx}
/-- the def that calls what it got: TT is what it makes of the lambda's reading -/
def GivesN (X : Cx) (Ng : List Str) (x : Str) (sg : Scope) (g : Addr) (cdg : Value) (bg : List Stmt) (a : Str) (q : Str) (TT : (XK → Hp → VK → Prop) → Hp → VK → Prop) : Prop :=
  ∀ (f c : Addr) (s : Shared) (H : Hp) (Q : VK) (tl : XK → Hp → VK → Prop), Room 1 (X.A.deeper (envOfC x sg s.heap.objs.size g cdg)) →
    (∀ (W : WX) (pn : List (Addr × Obj)) (xe : Value → Shared → Prop) (E : XK) (p1 p2 : Pos), L2N.Takes ((cxOf C8.CX0 X.prog X.w X.K X.mg X.base Ng x sg g cdg X.A X.stack s H C8.E0).tr pn xe) W →
      PE ((cxOf C8.CX0 X.prog X.w X.K X.mg X.base Ng x sg g cdg X.A X.stack s H C8.E0).tr pn xe) (.Call (.Name a p1) [] [] p2) (fun σZ HZ Q => (∀ cls d H', E cls d H' → W cls d σZ H') ∧ σZ[0]? = some (some (.ref f)) ∧ HZ c = some (LamX.CodeO c q) ∧ tl E HZ Q)) →
    H c = some (LamX.CodeO c q) → TT tl H Q →
    ∃ t, PSs (cxOf C8.CX0 X.prog X.w X.K X.mg X.base Ng x sg g cdg X.A X.stack s H C8.E0).nox bg t ∧ t { nx := fun _ H' => Q .non H', rt := Q } (L2.start Ng [.ref f]) H
end
section
variable {P : Program} {w : World} {K : PySem.W.Frag} {mg : Str → Option Value} {base : Heap}
end
end Fm

namespace Fm
open PySem PySem.Spec PyProof.Rows L2
/-- all classes of refusals under MirrorError -/
def mirNames : List Str := ["NoGround", "NoNumber", "NoRow", "NoTable", "NoForm", "NoKeeper", "NoWorth", "NoSeat", "NoFour", "NoPlace", "NoClaim", "NoText", "NoSaying", "TooMany", "NotKept"]
/-- the class at C is the one named nm among them, of errors without a dict -/
structure MirC (K : PySem.W.Frag) (C : Addr) (nm : Str) : Prop where
  exc : ExcC K C
  kit : ∀ x ∈ mirNames, PySem.W.kitOne K (.ref C) (.ref (He.ga K x)) = some (decide (x = nm))
  ve : PySem.W.kitOne K (.ref C) (.type "ValueError") = some true
  exm : PySem.W.exmOne K (.ref C) (.ref (He.ga K "MirrorError")) = some true
  one : mirNames.filter (fun x => decide (x = nm)) = [nm]
def excCB (K : PySem.W.Frag) (D : Addr) : Bool :=
  He.eqO (PySem.W.findIn K (.ref D) "__getattribute__") (some (some (.builtin "BaseException.__getattribute__"))) && (He.eqO (PySem.W.findIn K (.ref D) "__getattr__") (some none) && (decide (PySem.W.subIn K (.ref D) (.type "BaseException") = some true) && (PySem.W.hasDictIn K D &&
  (He.eqO (PySem.W.findIn K (.ref D) "__class__") (some (some (.builtin "object.__class__"))) && (He.eqO (PySem.W.specialIn K (.builtin "object.__class__") "__get__") (some (some (.builtin "getset_descriptor.__get__"))) && (decide (PySem.W.takesIn K (.builtin "object.__class__") = some true) && decide (PySem.W.mroIn K D (.type "object") = some true)))))))
/-- what the written part must say of the class named nm -/
def mirB (K : PySem.W.Frag) (nm : Str) : Bool :=
  excCB K (He.ga K nm) && ((mirNames.all fun x => decide (PySem.W.kitOne K (.ref (He.ga K nm)) (.ref (He.ga K x)) = some (decide (x = nm)))) && (decide (PySem.W.kitOne K (.ref (He.ga K nm)) (.type "ValueError") = some true) && decide (PySem.W.exmOne K (.ref (He.ga K nm)) (.ref (He.ga K "MirrorError")) = some true)))
/-- the suite of the first clause, as read: the class's name is told -/
def tsMir (K : PySem.W.Frag) (iE : Nat) (n : Nat) : Addr → Value → Option Addr → TS := fun a cls d D σ H => ∃ C nm, cls = .ref C ∧ d = none ∧ MirC K C nm ∧ σ[iE]? = some (some (.ref a)) ∧ σ.length = n ∧ ∀ H', Same H H' → D.rt (.str nm) H'
/-- what _law_refusal makes of the lambda's reading: None, or the name of what is raised -/
def TTref (K : PySem.W.Frag) : (XK → Hp → VK → Prop) → Hp → VK → Prop := fun tl H Q => tl (fun cls d H' => (∃ C nm, cls = .ref C ∧ d = none ∧ MirC K C nm ∧ ∀ H'', Same H' H'' → Q (.str nm) H'') ∨
  (∃ C, cls = .ref C ∧ PySem.W.exmOne K cls (.ref (He.ga K "MirrorError")) = some false ∧ PySem.W.exmOne K cls (.ref (He.ga K "OverNought")) = some true ∧ Q (.str "OverNought") H') ∨
  (∃ C, cls = .ref C ∧ PySem.W.exmOne K cls (.ref (He.ga K "MirrorError")) = some false ∧ PySem.W.exmOne K cls (.ref (He.ga K "OverNought")) = some false ∧ PySem.W.exmOne K cls (.ref (He.ga K "Flat")) = some true ∧ Q (.str "Flat") H')) H (fun _ H' => Q .non H')
section
variable {P : Program} {w : World} {K : PySem.W.Frag} {mg : Str → Option Value} {base : Heap} {x qual : Str} {params : Arguments} {body : List Stmt} {scope : Scope} {dvs : List V} {kws : List (Str × V)} {f c : Addr} {fd : FuncData}
/-- as F.ok, where the def's code object is known -/
def CodeAt (K : PySem.W.Frag) (f c : Addr) : Prop := ∀ (oc : Value) (od : Option Addr) (fd : FuncData) (osl : Array (Option Value)), K.lookup f = some ⟨oc, od, .func fd, osl⟩ → fd.code = .ref c
end
section
variable {X : Cx}
end
end Fm

namespace Fm
open PySem PySem.Spec PyProof.Rows L2
def tStep2 (K : PySem.W.Frag) (te : TE) : TE := fun σ H Q => te σ H fun x H1 => ∃ a xs, x = .ref a ∧ SqL K H1 a xs ∧ ∀ p ys, H1 p = none → ys.length ≤ xs.length → (∀ y ∈ ys, y ∈ xs) → Q (.ref p) (upd H1 p (.lst ys))
theorem w_step2 {K : PySem.W.Frag} {te : TE} {σ : L2.St} {H : Hp} {Q : VK} (h : te σ H fun x H1 => ∃ a xs, x = .ref a ∧ SqL K H1 a xs ∧ ∀ p ys, H1 p = none → ys.length ≤ xs.length → (∀ y ∈ ys, y ∈ xs) → Q (.ref p) (upd H1 p (.lst ys))) : tStep2 K te σ H Q := h
theorem w_par3 {i j l : Nat} {as : TA} {D : Ends} {σ : L2.St} {H : Hp} (h : as σ H fun vs H1 => ∃ u v w, vs = [u, v, w] ∧ D.nx (((σ.set i (some u)).set j (some v)).set l (some w)) H1) : tPar3 i j l as D σ H := h
theorem w_ex3 {a b c : V} {R : V → V → V → Prop} (h : R a b c) : ∃ u v w, [a, b, c] = [u, v, w] ∧ R u v w := ⟨a, b, c, rfl, h⟩
theorem w_bits {to : TE} {σ : L2.St} {H : Hp} {Q : VK} (h : to σ H fun x H1 => ∃ i, x = .int i ∧ Q (.int (Builtin.Int.intBits i : Nat)) H1) : tBits to σ H Q := h
/-! ### whole roots by value -/
def isqrt : Nat → Nat
  | 0 => 0
  | n + 1 => if (isqrt n + 1) * (isqrt n + 1) ≤ n + 1 then isqrt n + 1 else isqrt n
/-- the root on a wheel: the first one -/
def wroot (g a : Int) : Option Int := ((List.range g.toNat).map fun (i : Nat) => (i : Int)).find? fun i => decide ((i * i).fmod g = a)
/-- the root of a number, as both sides reckon it -/
def rootV (g : Int) (a : Int × Int) : Option (Int × Int) :=
  if g = 0 then (if a.1 < 0 then none else if (isqrt a.1.toNat : Int) * (isqrt a.1.toNat : Int) = a.1 ∧ (isqrt a.2.toNat : Int) * (isqrt a.2.toNat : Int) = a.2 then some ((isqrt a.1.toNat : Int), (isqrt a.2.toNat : Int)) else none) else (wroot g a.1).map fun i => (i, 1)
/-- None, or a number -/
def OptV (H : Hp) (v : V) : Option (Int × Int) → Prop
  | none => v = .non
  | some r => NumV H v r
theorem OptV.kt {H H' : Hp} {v : V} {o : Option (Int × Int)} (h : OptV H v o) (k : Kt H H') : OptV H' v o := by
  cases o with
  | none => exact h
  | some r => exact NumV.kt h k
/-- a number of the ground g, below 2 ^ k -/
def TN (g : Int) (k : Nat) (a : Int × Int) : Prop := ((g = 0 ∧ Red a) ∨ (0 < g ∧ 0 ≤ a.1 ∧ a.1 < g ∧ a.2 = 1)) ∧ a.1.natAbs < 2 ^ k ∧ a.2.natAbs < 2 ^ k
theorem TN.mono {g : Int} {k l : Nat} {a : Int × Int} (h : TN g k a) (hl : k ≤ l) : TN g l a := ⟨h.1, Nat.lt_of_lt_of_le h.2.1 (Nat.pow_le_pow_right (by decide) hl), Nat.lt_of_lt_of_le h.2.2 (Nat.pow_le_pow_right (by decide) hl)⟩
theorem TN.pos {g : Int} {k : Nat} {a : Int × Int} (h : TN g k a) : 0 < a.2 := by
  rcases h.1 with ⟨_, h⟩ | ⟨_, _, _, h⟩
  · exact h.1
  · omega
theorem TN.num {g : Int} {k : Nat} {a : Int × Int} (h : TN g k a) : numOk g [.int a.1, .int a.2] = true := by
  rcases h.1 with ⟨rfl, hr⟩ | ⟨hg, h1, h2, h3⟩
  · rw [numOk_0, decide_eq_true (show 1 ≤ a.2 from hr.1), hr.2]
    rfl
  · rw [numOk_g (by omega), decide_eq_true h1, decide_eq_true h2, decide_eq_true h3]
    rfl
def Gr5 (g : Int) : Prop := g = 3 ∨ g = 5 ∨ g = 7 ∨ g = 11 ∨ g = 13
/-- on a wheel what is no multiple has a back -/
theorem inv_of {g d : Int} (hg : Gr5 g) (hd : d.fmod g ≠ 0) : ∃ f : Int, 1 ≤ f ∧ f ≤ 13 ∧ (f * d).fmod g = 1 := by
  have g0 : 0 < g := by unfold Gr5 at hg; omega
  have e : ∀ f : Int, (f * d).fmod g = (f * d.fmod g).fmod g := fun f => by
    rw [fmod_pos _ g0, fmod_pos _ g0, fmod_pos _ g0, Int.mul_emod f (d % g), Int.emod_emod_of_dvd d (Int.dvd_refl g), ← Int.mul_emod]
  have r0 : 0 ≤ d.fmod g := by rw [fmod_pos _ g0]; exact Int.emod_nonneg _ (by omega)
  have r1 : d.fmod g < g := by rw [fmod_pos _ g0]; exact Int.emod_lt_of_pos _ g0
  simp only [e]
  generalize d.fmod g = r at hd r0 r1 ⊢
  have key : ∀ g ∈ [3, 5, 7, 11, 13], ∀ r ∈ List.range g, r ≠ 0 → ∃ f ∈ List.range 14, 1 ≤ f ∧ ((f : Int) * (r : Int)).fmod (g : Int) = 1 := by decide +kernel
  obtain ⟨n, rfl⟩ := Int.eq_ofNat_of_zero_le r0
  have mk : ∀ m : Nat, m ∈ [3, 5, 7, 11, 13] → (n : Int) < m → ∃ f : Int, 1 ≤ f ∧ f ≤ 13 ∧ (f * (n : Int)).fmod (m : Int) = 1 := fun m hm hn => by
    obtain ⟨f, hf, h1, h2⟩ := key m hm n (List.mem_range.mpr (by omega)) (by omega)
    exact ⟨f, by omega, by have := List.mem_range.mp hf; omega, h2⟩
  unfold Gr5 at hg
  rcases hg with rfl | rfl | rfl | rfl | rfl
  · exact mk 3 (by decide) r1
  · exact mk 5 (by decide) r1
  · exact mk 7 (by decide) r1
  · exact mk 11 (by decide) r1
  · exact mk 13 (by decide) r1
/-- what comes of lowest terms is a number -/
theorem tn_low {g u d : Int} {k : Nat} (hg : g = 0 ∨ Gr5 g) (hd : d ≠ 0) (hg2 : g ≠ 0 → d.fmod g ≠ 0) (hk : 4 ≤ k) (h1 : u.natAbs < 2 ^ k) (h2 : d.natAbs < 2 ^ k) : TN g k (lowF g u d) := by
  have g13 : g ≤ 13 := by unfold Gr5 at hg; omega
  obtain ⟨b1, b2, b3⟩ := low_bd (g := g) (u := u) g13 hd hk h1 h2
  refine ⟨?_, b1, b2⟩
  rcases hg with rfl | hg
  · exact .inl ⟨rfl, (low0_red hd).1⟩
  · have g0 : 0 < g := by unfold Gr5 at hg; omega
    obtain ⟨f, f1, f2, f3⟩ := inv_of hg (hg2 (by omega))
    refine .inr ⟨g0, ?_⟩
    rw [low_inv g0 f3]
    refine ⟨?_, ?_, rfl⟩
    · show 0 ≤ (u * f).fmod g
      rw [fmod_pos _ g0]
      exact Int.emod_nonneg _ (by omega)
    · show (u * f).fmod g < g
      rw [fmod_pos _ g0]
      exact Int.emod_lt_of_pos _ g0
theorem one_fmod {g : Int} (hg : Gr5 g) : (1 : Int).fmod g ≠ 0 := by
  unfold Gr5 at hg
  rcases hg with rfl | rfl | rfl | rfl | rfl <;> decide
theorem TN.bd {g : Int} {k : Nat} {a : Int × Int} (h : TN g k a) (hk : k ≤ 3000) : PBd a := ⟨(h.mono hk).2.1, (h.mono hk).2.2, by have := h.pos; omega⟩
theorem tn_times {g : Int} {k l : Nat} {a c : Int × Int} (hg : g = 0 ∨ Gr5 g) (ha : TN g k a) (hc : TN g l c) (hk : 4 ≤ k) : TN g (k + l) (timesF g a c) := by
  have ha2 := ha.pos
  have hc2 := hc.pos
  refine tn_low hg (Int.mul_ne_zero (by omega) (by omega)) (fun z => ?_) (by omega) (wide_lt ha.2.1 hc.2.1) (wide_lt ha.2.2 hc.2.2)
  rcases ha.1 with ⟨e, _⟩ | ⟨_, _, _, e⟩
  · exact absurd e z
  · rcases hc.1 with ⟨e2, _⟩ | ⟨_, _, _, e2⟩
    · exact absurd e2 z
    · rw [e, e2]
      exact one_fmod (hg.resolve_left z)
theorem tn_plus {g : Int} {k l : Nat} {a c : Int × Int} (hg : g = 0 ∨ Gr5 g) (ha : TN g k a) (hc : TN g l c) (hk : 4 ≤ k) : TN g (k + l + 1) (plusF g a c) := by
  have ha2 := ha.pos
  have hc2 := hc.pos
  have b1 : (a.1 * c.2 + c.1 * a.2).natAbs < 2 ^ (k + l + 1) := by
    have h1 := wide_lt ha.2.1 hc.2.2
    have h2 := wide_lt hc.2.1 ha.2.2
    rw [Nat.add_comm l k] at h2
    rw [Nat.pow_succ]
    generalize 2 ^ (k + l) = z at h1 h2 ⊢
    omega
  refine tn_low hg (Int.mul_ne_zero (by omega) (by omega)) (fun z => ?_) (by omega) b1 (Nat.lt_of_lt_of_le (wide_lt ha.2.2 hc.2.2) (Nat.pow_le_pow_right (by decide) (by omega)))
  rcases ha.1 with ⟨e, _⟩ | ⟨_, _, _, e⟩
  · exact absurd e z
  · rcases hc.1 with ⟨e2, _⟩ | ⟨_, _, _, e2⟩
    · exact absurd e2 z
    · rw [e, e2]
      exact one_fmod (hg.resolve_left z)
def minusF (g : Int) (a : Int × Int) : Int × Int := lowF g (0 - a.1) a.2
theorem tn_minus {g : Int} {k : Nat} {a : Int × Int} (hg : g = 0 ∨ Gr5 g) (ha : TN g k a) (hk : 4 ≤ k) : TN g k (minusF g a) := by
  have ha2 := ha.pos
  refine tn_low hg (by omega) (fun z => ?_) hk (by have := ha.2.1; omega) ha.2.2
  rcases ha.1 with ⟨e, _⟩ | ⟨_, _, _, e⟩
  · exact absurd e z
  · rw [e]
    exact one_fmod (hg.resolve_left z)
theorem w_eqStr {H : Hp} {Q : VK} {a b : Str} (q : Q (.bl (decide (a = b))) H) : rEq (.str a) (.str b) H Q := by
  refine ⟨rfl, ?_⟩
  have e : decide (V.str a = V.str b) = decide (a = b) := by
    by_cases h : a = b
    · rw [decide_eq_true h, decide_eq_true (by rw [h])]
    · rw [decide_eq_false h, decide_eq_false (fun z => h (V.str.inj z))]
  show Q (.bl (decide (V.str a = V.str b))) H
  rw [e]
  exact q
theorem w_neStr {H : Hp} {Q : VK} {a b : Str} (q : Q (.bl (!decide (a = b))) H) : rNe (.str a) (.str b) H Q := by
  refine ⟨rfl, ?_⟩
  have e : decide (V.str a = V.str b) = decide (a = b) := by
    by_cases h : a = b
    · rw [decide_eq_true h, decide_eq_true (by rw [h])]
    · rw [decide_eq_false h, decide_eq_false (fun z => h (V.str.inj z))]
  show Q (.bl (!decide (V.str a = V.str b))) H
  rw [e]
  exact q
theorem num_eqv (a b : Int × Int) : PyData.eqv (numD a) (numD b) = decide (a = b) := by
  obtain ⟨a1, a2⟩ := a
  obtain ⟨b1, b2⟩ := b
  by_cases h1 : a1 = b1
  · by_cases h2 : a2 = b2
    · subst h1 h2
      rw [decide_eq_true rfl]
      exact SeqAt.eqv_refl _ (by simp [numD, PyData.canLay0, PyData.canLayAll0])
    · rw [decide_eq_false (by intro z; cases z; exact h2 rfl)]
      simp [numD, PyData.eqv, PyData.eqvAll, h1, h2]
  · rw [decide_eq_false (by intro z; cases z; exact h1 rfl)]
    simp [numD, PyData.eqv, PyData.eqvAll, h1]
theorem num_shaped (a : Int × Int) : SeqAt.shaped (numD a) = true := shaped_of (by simp [numD, PyData.canLay0, PyData.canLayAll0]) (by simp [numD, PyData.depth, PyData.depthAll])
theorem w_eqNum {K : PySem.W.Frag} {H : Hp} {Q : VK} {v v' : V} {a b : Int × Int} (h1 : NumV H v a) (h2 : NumV H v' b) (q : Q (.bl (decide (a = b))) H) : rEqD K v v' H Q := by
  refine ⟨_, _, NumV.dp h1, NumV.dp h2, num_shaped a, num_shaped b, ?_⟩
  rw [num_eqv]
  exact q
/-- a class of refusals, to be raised with a text -/
structure RaiseC (K : PySem.W.Frag) (mg : Str → Option Value) (x : Str) : Prop where
  g : mg x = some (.ref (He.ga K x))
  e : PySem.W.excIn K (He.ga K x) He.veBase "ValueError.__new__" = true
  k : PySem.W.keepIn K (.ref (He.ga K x)) = true
  b : PySem.W.subIn K (.ref (He.ga K x)) (.type "BaseException") = some true
  t : PySem.W.typeIn K (.ref (He.ga K x)) = some (.type "type")
/-! ### tables of code objects beside the bag -/
open LamX in
theorem tabs_mv {T : List (Addr × Str)} {H H' : Hp} {b : Addr} (t : Tabs T H) (hb : Bag H b) (m : Mv b H H') : Tabs T H' := fun p hp => by
  obtain ⟨A, B, eb, _⟩ := hb
  obtain ⟨ps, h1, h2, h3⟩ := t p hp
  refine ⟨ps, m _ _ (fun z => ?_) h1, h2, fun pos cv hc => ?_⟩
  · rw [z, eb] at h1
    cases h1
  · obtain ⟨c, e1, e2⟩ := h3 pos cv hc
    refine ⟨c, e1, m _ _ (fun z => ?_) e2⟩
    rw [z, eb] at e2
    exact absurd (Option.some.inj e2) (fun q => by unfold CodeO at q; cases q)
open LamX in
theorem tabs_updL {T : List (Addr × Str)} {H : Hp} {D : Addr} {xs ys : List V} (t : Tabs T H) (hD : H D = some (.lst xs)) : Tabs T (upd H D (.lst ys)) := fun p hp => by
  obtain ⟨ps, h1, h2, h3⟩ := t p hp
  refine ⟨ps, ?_, h2, fun pos cv hc => ?_⟩
  · rw [upd_ne (fun z => by rw [z, hD] at h1; cases h1)]
    exact h1
  · obtain ⟨c, e1, e2⟩ := h3 pos cv hc
    refine ⟨c, e1, ?_⟩
    rw [upd_ne (fun z => ?_)]
    · exact e2
    · rw [z, hD] at e2
      exact absurd (Option.some.inj e2) (fun q => by unfold CodeO at q; cases q)
open LamX in
theorem tabs_sm {T : List (Addr × Str)} {H H' : Hp} (t : Tabs T H) (s : Same H H') : Tabs T H' := t.ext s
/-- all but the tables stay, and these are tables still -/
def Sx (T : List (Addr × Str)) (H H' : Hp) : Prop := LamX.ExtN H H' ∧ LamX.Tabs T H'
theorem Sx.tup {T : List (Addr × Str)} {H H' : Hp} {p : Addr} {xs : List V} (s : Sx T H H') (h : H p = some (.tup xs)) : H' p = some (.tup xs) := s.1 _ _ h fun _ z => by cases z
theorem Sx.lst {T : List (Addr × Str)} {H H' : Hp} {p : Addr} {xs : List V} (s : Sx T H H') (h : H p = some (.lst xs)) : H' p = some (.lst xs) := s.1 _ _ h fun _ z => by cases z
theorem Sx.kt {T : List (Addr × Str)} {H H' : Hp} (s : Sx T H H') : Kt H H' := fun _ _ h => s.tup h
theorem Sx.trans {T : List (Addr × Str)} {H H1 H2 : Hp} (a : Sx T H H1) (b : Sx T H1 H2) : Sx T H H2 := ⟨a.1.trans b.1, b.2⟩
theorem Sx.same {T : List (Addr × Str)} {H H' : Hp} (t : LamX.Tabs T H) (s : Same H H') : Sx T H H' := ⟨LamX.ExtN.of s, tabs_sm t s⟩
theorem Sx.refl {T : List (Addr × Str)} {H : Hp} (t : LamX.Tabs T H) : Sx T H H := ⟨LamX.ExtN.refl H, t⟩
theorem Sx.bag {T : List (Addr × Str)} {H H' : Hp} {b : Addr} (s : Sx T H H') (hb : Bag H b) : Bag H' b := by
  obtain ⟨A, B, h, r⟩ := hb
  exact ⟨A, B, s.lst h, r⟩
/-- a new list, filled -/
theorem Sx.updD {T : List (Addr × Str)} {H H' : Hp} {D : Addr} {xs ys : List V} (s : Sx T H H') (hD : H D = none) (h : H' D = some (.lst xs)) : Sx T H (upd H' D (.lst ys)) :=
  ⟨fun b o e n => by rw [upd_ne (fresh_of e hD)]; exact s.1 b o e n, tabs_updL s.2 h⟩
/-- a bag that is new -/
theorem Sx.mv {T : List (Addr × Str)} {H H1 H2 : Hp} {b : Addr} (s : Sx T H H1) (hn : H b = none) (hb : Bag H1 b) (m : Mv b H1 H2) : Sx T H H2 := ⟨fun p o e n => m p o (fresh_of e hn) (s.1 p o e n), tabs_mv s.2 hb m⟩
end Fm

namespace Fm
open PySem PySem.Spec PyProof.Rows L2
def CPowW (i j : Int) : Prop := 0 ≤ j ∧ (Builtin.Int.intBits i : Int) * j ≤ 2 ^ 27
/-! ### fractions as rational numbers -/
def qv (p : Int × Int) : Rat := (p.1 : Rat) / (p.2 : Rat)
theorem rat_ne {z : Int} (h : z ≠ 0) : (z : Rat) ≠ 0 := fun e => h (by exact_mod_cast e)
theorem TN.red {k : Nat} {a : Int × Int} (h : TN 0 k a) : Red a := by
  rcases h.1 with ⟨_, h⟩ | ⟨h, _⟩
  · exact h
  · exact absurd h (by decide)
theorem TN.one {g : Int} {k : Nat} {a : Int × Int} (h : TN g k a) (hg : 0 < g) : a.2 = 1 := by
  rcases h.1 with ⟨e, _⟩ | ⟨_, _, _, e⟩
  · omega
  · exact e
theorem TN.gpos {g : Int} {k : Nat} {a : Int × Int} (h : TN g k a) (hz : g ≠ 0) : 0 < g := by rcases h.1 with ⟨e, _⟩ | ⟨e, _⟩ <;> omega
/-- only nought is written with nought above -/
theorem TN.zero {g : Int} {k : Nat} {a : Int × Int} (h : TN g k a) : a.1 = 0 ↔ a = (0, 1) := by
  constructor
  · intro z
    rcases h.1 with ⟨rfl, hr⟩ | ⟨_, _, _, e⟩
    · have h2 := hr.2
      rw [z, Int.gcd_zero_left] at h2
      have := hr.1
      exact Prod.ext z (by show a.2 = 1; omega)
    · exact Prod.ext z e
  · intro e
    rw [e]
end Fm

namespace Fr
open Lean.Grind
variable {F : Type} [CommRing F]
abbrev Row (F : Type) := Nat → F
/-- a sum of rows, times numbers -/
def lin : List F → List (Row F) → Row F
  | c :: cs, a :: A => fun j => c * a j + lin cs A j
  | _, _ => fun _ => 0
/-- what rows span: in every space that holds them -/
structure Spc (W : Row F → Prop) : Prop where
  zero : W (fun _ => 0)
  add : ∀ u v, W u → W v → W (fun j => u j + v j)
  mul : ∀ (c : F) u, W u → W (fun j => c * u j)
def InS (L : List (Row F)) (v : Row F) : Prop := ∀ W : Row F → Prop, Spc W → (∀ r ∈ L, W r) → W v
theorem InS.mem {L : List (Row F)} {v : Row F} (h : v ∈ L) : InS L v := fun _ _ hr => hr v h
theorem InS.spc (L : List (Row F)) : Spc (InS L) := ⟨fun _ s _ => s.zero, fun u v hu hv W s hr => s.add u v (hu W s hr) (hv W s hr), fun c u hu W s hr => s.mul c u (hu W s hr)⟩
theorem InS.trans {L M : List (Row F)} {v : Row F} (h : InS L v) (hl : ∀ r ∈ L, InS M r) : InS M v := h (InS M) (InS.spc M) hl
theorem lin_zero : ∀ (h : List Nat) (A : List (Row F)), lin (h.map fun _ => (0 : F)) A = fun _ => 0
  | [], _ => by unfold lin; rfl
  | _ :: _, [] => by unfold lin; rfl
  | _ :: h, a :: A => by
    funext j
    show (0 : F) * a j + lin (h.map fun _ => (0 : F)) A j = 0
    rw [lin_zero h A]
    grind
theorem lin_add (f g : Nat → F) : ∀ (h : List Nat) (A : List (Row F)), lin (h.map fun p => f p + g p) A = fun j => lin (h.map f) A j + lin (h.map g) A j
  | [], _ => by
    funext j
    show (0 : F) = 0 + 0
    grind
  | _ :: _, [] => by
    funext j
    show (0 : F) = 0 + 0
    grind
  | p :: h, a :: A => by
    funext j
    show (f p + g p) * a j + lin (h.map fun p => f p + g p) A j = f p * a j + lin (h.map f) A j + (g p * a j + lin (h.map g) A j)
    rw [lin_add f g h A]
    grind
theorem lin_mul (c : F) (f : Nat → F) : ∀ (h : List Nat) (A : List (Row F)), lin (h.map fun p => c * f p) A = fun j => c * lin (h.map f) A j
  | [], _ => by
    funext j
    show (0 : F) = c * 0
    grind
  | _ :: _, [] => by
    funext j
    show (0 : F) = c * 0
    grind
  | p :: h, a :: A => by
    funext j
    show c * f p * a j + lin (h.map fun p => c * f p) A j = c * (f p * a j + lin (h.map f) A j)
    rw [lin_mul c f h A]
    grind
/-- least rows A with their heads h -/
structure Rr (A : List (Row F)) (h : List Nat) : Prop where
  len : A.length = h.length
  inc : ∀ (i k p q : Nat), h[i]? = some p → h[k]? = some q → i < k → p < q
  one : ∀ (i : Nat) (a : Row F) (p : Nat), A[i]? = some a → h[i]? = some p → a p = 1
  nul : ∀ (i k : Nat) (a : Row F) (p : Nat), A[i]? = some a → h[k]? = some p → i ≠ k → a p = 0
  ahead : ∀ (i : Nat) (a : Row F) (p j : Nat), A[i]? = some a → h[i]? = some p → j < p → a j = 0
/-- by numbers that are all nought but one -/
theorem lin_unit : ∀ (i : Nat) (A : List (Row F)) (h : List Nat) (f : Nat → F) (a : Row F), A.length = h.length → A[i]? = some a → (∀ (k p : Nat), h[k]? = some p → k ≠ i → f p = 0) → (∀ p : Nat, h[i]? = some p → f p = 1) → lin (h.map f) A = a
  | _, [], _, _, _, _, e, _, _ => by cases e
  | _, _ :: _, [], _, _, hl, _, _, _ => by cases hl
  | 0, b :: A, q :: h, f, a, hl, e, hz, h1 => by
    have e' : b = a := Option.some.inj e
    subst e'
    funext j
    show f q * b j + lin (h.map f) A j = b j
    have hq : f q = 1 := h1 q rfl
    have hr : lin (h.map f) A = fun _ => 0 := by
      have : h.map f = h.map fun _ => (0 : F) := List.map_congr_left fun p hp => by
        obtain ⟨k, hk⟩ := List.getElem?_of_mem hp
        exact hz (k + 1) p hk (by omega)
      rw [this, lin_zero]
    rw [hq, hr]
    grind
  | i + 1, b :: A, q :: h, f, a, hl, e, hz, h1 => by
    have ih := lin_unit i A h f a (Nat.succ.inj hl) e (fun k p hk hne => hz (k + 1) p hk (by omega)) (fun p hp => h1 p hp)
    have hq : f q = 0 := hz 0 q rfl (by omega)
    funext j
    show f q * b j + lin (h.map f) A j = a j
    rw [hq, ih]
    grind
/-- a row that is spanned is told by what it has at the heads -/
theorem Rr.coord {A : List (Row F)} {h : List Nat} (R : Rr A h) {v : Row F} (hv : InS A v) : v = lin (h.map v) A := by
  refine hv (fun v => v = lin (h.map v) A) ⟨?_, fun u w hu hw => ?_, fun c u hu => ?_⟩ fun r hr => ?_
  · exact (lin_zero h A).symm
  · have e := lin_add u w h A
    rw [e, ← hu, ← hw]
  · have e := lin_mul c u h A
    rw [e, ← hu]
  · obtain ⟨i, hi⟩ := List.getElem?_of_mem hr
    exact (lin_unit i A h r r R.len hi (fun k p hk hne => R.nul i k r p hi hk (fun z => hne z.symm)) fun p hp => R.one i r p hi hp).symm
/-- a sum that isn't nought has a part that isn't -/
theorem lin_ne {p : Nat} : ∀ (A : List (Row F)) (h : List Nat) (f : Nat → F), A.length = h.length → lin (h.map f) A p ≠ 0 → ∃ (i : Nat) (a : Row F) (q : Nat), A[i]? = some a ∧ h[i]? = some q ∧ f q ≠ 0 ∧ a p ≠ 0
  | [], [], _, _, hne => absurd rfl hne
  | [], _ :: _, _, hl, _ => by cases hl
  | _ :: _, [], _, hl, _ => by cases hl
  | a :: A, q :: h, f, hl, hne => by
    have hne' : f q * a p + lin (h.map f) A p ≠ 0 := hne
    by_cases e : f q * a p = 0
    · have h2 : lin (h.map f) A p ≠ 0 := fun z => hne' (by rw [e, z]; grind)
      obtain ⟨i, b, r, h3, h4, h5, h6⟩ := lin_ne A h f (Nat.succ.inj hl) h2
      exact ⟨i + 1, b, r, h3, h4, h5, h6⟩
    · refine ⟨0, a, q, rfl, rfl, fun z => e ?_, fun z => e ?_⟩
      · rw [z]
        grind
      · rw [z]
        grind
/-- the first place of a spanned row that isn't nought is a head -/
theorem Rr.lead {A : List (Row F)} {h : List Nat} (R : Rr A h) {v : Row F} (hv : InS A v) {p : Nat} (hp : v p ≠ 0) (h0 : ∀ j, j < p → v j = 0) : p ∈ h := by
  have e := R.coord hv
  have hp' : lin (h.map v) A p ≠ 0 := fun z => hp (by rw [e]; exact z)
  obtain ⟨i, a, q, hi, hq, h1, h2⟩ := lin_ne A h v R.len hp'
  have hge : p ≤ q := Nat.le_of_not_lt fun z => h1 (h0 q z)
  have hle : q ≤ p := Nat.le_of_not_lt fun z => h2 (R.ahead i a q p hi hq z)
  have : p = q := by omega
  rw [this]
  exact List.mem_of_getElem? hq
theorem inc_eq : ∀ (h k : List Nat), (∀ (i j p q : Nat), h[i]? = some p → h[j]? = some q → i < j → p < q) → (∀ (i j p q : Nat), k[i]? = some p → k[j]? = some q → i < j → p < q) → (∀ p, p ∈ h ↔ p ∈ k) → h = k
  | [], [], _, _, _ => rfl
  | [], q :: k, _, _, hm => absurd ((hm q).mpr List.mem_cons_self) (by intro z; cases z)
  | p :: h, [], _, _, hm => absurd ((hm p).mp List.mem_cons_self) (by intro z; cases z)
  | p :: h, q :: k, hh, hk, hm => by
    have below : ∀ x ∈ h, p < x := fun x hx => by
      obtain ⟨i, hi⟩ := List.getElem?_of_mem hx
      exact hh 0 (i + 1) p x rfl hi (by omega)
    have below2 : ∀ x ∈ k, q < x := fun x hx => by
      obtain ⟨i, hi⟩ := List.getElem?_of_mem hx
      exact hk 0 (i + 1) q x rfl hi (by omega)
    have epq : p = q := by
      have h1 := (hm p).mp List.mem_cons_self
      have h2 := (hm q).mpr List.mem_cons_self
      rcases List.mem_cons.mp h1 with z | z
      · exact z
      · rcases List.mem_cons.mp h2 with y | y
        · exact y.symm
        · have := below2 p z
          have := below q y
          omega
    subst epq
    have ih := inc_eq h k (fun i j a b ha hb hij => hh (i + 1) (j + 1) a b ha hb (by omega)) (fun i j a b ha hb hij => hk (i + 1) (j + 1) a b ha hb (by omega)) fun x => by
      constructor
      · intro hx
        rcases List.mem_cons.mp ((hm x).mp (List.mem_cons_of_mem _ hx)) with z | z
        · have := below x hx
          omega
        · exact z
      · intro hx
        rcases List.mem_cons.mp ((hm x).mpr (List.mem_cons_of_mem _ hx)) with z | z
        · have := below2 x hx
          omega
        · exact z
    rw [ih]
/-- least rows that span the same are the same -/
theorem Rr.uniq {A B : List (Row F)} {h k : List Nat} (n1 : (1 : F) ≠ 0) (R : Rr A h) (T : Rr B k) (hAB : ∀ r ∈ A, InS B r) (hBA : ∀ r ∈ B, InS A r) : A = B ∧ h = k := by
  have heads : ∀ {A B : List (Row F)} {h k : List Nat}, Rr A h → Rr B k → (∀ r ∈ A, InS B r) → ∀ p ∈ h, p ∈ k := fun {A B h k} R T hAB p hp => by
    obtain ⟨i, hi⟩ := List.getElem?_of_mem hp
    have hlt : i < A.length := by rw [R.len]; exact (List.getElem?_eq_some_iff.mp hi).1
    have ha : A[i]? = some A[i] := List.getElem?_eq_getElem hlt
    exact T.lead (hAB _ (List.getElem_mem hlt)) (fun z => n1 (by rw [← R.one i _ p ha hi]; exact z)) fun j hj => R.ahead i _ p j ha hi hj
  have ehk : h = k := inc_eq h k R.inc T.inc fun p => ⟨heads R T hAB p, heads T R hBA p⟩
  subst ehk
  refine ⟨List.ext_getElem? fun i => ?_, rfl⟩
  have hl : A.length = B.length := R.len.trans T.len.symm
  by_cases hi : i < A.length
  · have ha : A[i]? = some A[i] := List.getElem?_eq_getElem hi
    have hb : B[i]? = some (B[i]'(by omega)) := List.getElem?_eq_getElem (by omega)
    have e := T.coord (hAB _ (List.getElem_mem hi))
    have e2 := lin_unit i B h A[i] (B[i]'(by omega)) T.len hb (fun q p hq hne => R.nul i q _ p ha hq (fun z => hne z.symm)) fun p hp => R.one i _ p ha hp
    rw [ha, hb]
    exact congrArg some (e.trans e2)
  · rw [List.getElem?_eq_none (by omega), List.getElem?_eq_none (by omega)]
/-- a row less what of it a head's row clears at a place -/
def clr (k : Nat) (b a : Row F) : Row F := fun j => a j + -(a k) * b j
theorem clr_at {k : Nat} {b a : Row F} (hb : b k = 1) : clr k b a k = 0 := by
  unfold clr
  rw [hb]
  grind
theorem clr_nul {k j : Nat} {b a : Row F} (hb : b j = 0) : clr k b a j = a j := by
  unfold clr
  rw [hb]
  grind
/-- one head more -/
theorem Rr.step {A : List (Row F)} {h : List Nat} (R : Rr A h) {k : Nat} {b : Row F} (hk : ∀ p ∈ h, p < k) (hb : b k = 1) (h0 : ∀ j, j < k → b j = 0) : Rr (A.map (clr k b) ++ [b]) (h ++ [k]) := by
  have hl : (A.map (clr k b)).length = h.length := by rw [List.length_map, R.len]
  have look : ∀ (i : Nat) (a : Row F), (A.map (clr k b) ++ [b])[i]? = some a → (i < h.length ∧ ∃ a0, A[i]? = some a0 ∧ a = clr k b a0) ∨ (i = h.length ∧ a = b) := fun i a e => by
    by_cases hi : i < h.length
    · rw [List.getElem?_append_left (by omega), List.getElem?_map] at e
      have ha : A[i]? = some (A[i]'(by rw [R.len]; exact hi)) := List.getElem?_eq_getElem _
      rw [ha] at e
      exact .inl ⟨hi, _, ha, (Option.some.inj e).symm⟩
    · rw [List.getElem?_append_right (by omega), hl] at e
      cases hd : i - h.length with
      | zero =>
        rw [hd] at e
        exact .inr ⟨by omega, (Option.some.inj e).symm⟩
      | succ n =>
        rw [hd] at e
        cases e
  have lookh : ∀ (i p : Nat), (h ++ [k])[i]? = some p → (i < h.length ∧ h[i]? = some p) ∨ (i = h.length ∧ p = k) := fun i p e => by
    by_cases hi : i < h.length
    · rw [List.getElem?_append_left hi] at e
      exact .inl ⟨hi, e⟩
    · rw [List.getElem?_append_right (by omega)] at e
      cases hd : i - h.length with
      | zero =>
        rw [hd] at e
        exact .inr ⟨by omega, (Option.some.inj e).symm⟩
      | succ n =>
        rw [hd] at e
        cases e
  refine ⟨by rw [List.length_append, List.length_append, hl]; rfl, fun i q p r hp hr hiq => ?_, fun i a p ha hp => ?_, fun i q a p ha hp hne => ?_, fun i a p j ha hp hj => ?_⟩
  · rcases lookh i p hp with ⟨h1, e1⟩ | ⟨h1, e1⟩
    · rcases lookh q r hr with ⟨h2, e2⟩ | ⟨h2, e2⟩
      · exact R.inc i q p r e1 e2 hiq
      · rw [e2]
        exact hk p (List.mem_of_getElem? e1)
    · rcases lookh q r hr with ⟨h2, e2⟩ | ⟨h2, e2⟩ <;> omega
  · rcases look i a ha with ⟨h1, a0, e0, rfl⟩ | ⟨h1, rfl⟩
    · rcases lookh i p hp with ⟨_, e1⟩ | ⟨h2, e1⟩
      · rw [clr_nul (h0 p (hk p (List.mem_of_getElem? e1)))]
        exact R.one i a0 p e0 e1
      · omega
    · rcases lookh i p hp with ⟨h2, e1⟩ | ⟨_, e1⟩
      · omega
      · rw [e1]
        exact hb
  · rcases look i a ha with ⟨h1, a0, e0, rfl⟩ | ⟨h1, rfl⟩
    · rcases lookh q p hp with ⟨_, e1⟩ | ⟨h2, e1⟩
      · rw [clr_nul (h0 p (hk p (List.mem_of_getElem? e1)))]
        exact R.nul i q a0 p e0 e1 hne
      · rw [e1]
        exact clr_at hb
    · rcases lookh q p hp with ⟨h2, e1⟩ | ⟨h2, e1⟩
      · exact h0 p (hk p (List.mem_of_getElem? e1))
      · omega
  · rcases look i a ha with ⟨h1, a0, e0, rfl⟩ | ⟨h1, rfl⟩
    · rcases lookh i p hp with ⟨_, e1⟩ | ⟨h2, e1⟩
      · have := hk p (List.mem_of_getElem? e1)
        rw [clr_nul (h0 j (by omega))]
        exact R.ahead i a0 p j e0 e1 hj
      · omega
    · rcases lookh i p hp with ⟨h2, e1⟩ | ⟨_, e1⟩
      · omega
      · rw [e1] at hj
        exact h0 j hj
/-- clearing changes nothing in what is spanned -/
theorem clr_span {L M : List (Row F)} {k : Nat} {b a : Row F} (hb : InS M b) (ha : InS M a) : InS M (clr k b a) := by
  have s := InS.spc M
  exact s.add a (fun j => -(a k) * b j) ha (s.mul (-(a k)) b hb)
theorem clr_back {M : List (Row F)} {k : Nat} {b a : Row F} (hb : InS M b) (hc : InS M (clr k b a)) : InS M a := by
  have s := InS.spc M
  have e : a = fun j => clr k b a j + (a k) * b j := by
    funext j
    unfold clr
    grind
  rw [e]
  exact s.add _ _ hc (s.mul (a k) b hb)
/-- rows that are nought everywhere span nothing -/
theorem ins_nought {L M : List (Row F)} {v : Row F} (h : InS (L ++ M) v) (hz : ∀ r ∈ M, r = fun _ => 0) : InS L v :=
  h.trans fun r hr => (List.mem_append.mp hr).elim InS.mem fun hm => by rw [hz r hm]; exact (InS.spc L).zero
end Fr

namespace Fm
open Lean.Grind
/-- numbers of the ground g as elements of a field: e of a number, i of a whole number -/
structure GV (g : Int) (F : Type) [CommRing F] where
  i : Int → F
  e : Int × Int → F
  iadd : ∀ a b, i (a + b) = i a + i b
  imul : ∀ a b, i (a * b) = i a * i b
  i0 : i 0 = 0
  i1 : i 1 = 1
  ker : ∀ z, i z = 0 → (g = 0 → z = 0) ∧ (g ≠ 0 → z.fmod g = 0)
  inv : ∀ x : F, x ≠ 0 → ∃ y, x * y = 1
  ei : ∀ a : Int × Int, a.2 ≠ 0 → (g ≠ 0 → a.2.fmod g ≠ 0) → e a * i a.2 = i a.1
  ne : (1 : F) ≠ 0
  gz : g ≠ 0 → i g = 0
section
variable {g : Int} {F : Type} [CommRing F] (V : GV g F)
include V in
theorem GV.dom {x y : F} (h : x * y = 0) (hx : x ≠ 0) : y = 0 := by
  obtain ⟨z, hz⟩ := V.inv x hx
  have : y = (x * z) * y := by rw [hz]; grind
  grind
include V in
theorem GV.cancel {x y z : F} (h : x * z = y * z) (hz : z ≠ 0) : x = y := by
  obtain ⟨w, hw⟩ := V.inv z hz
  have e1 : x = x * z * w := by grind
  have e2 : y = y * z * w := by grind
  rw [e1, e2, h]
theorem GV.ineg (a : Int) : V.i (-a) = -V.i a := by
  have h := V.iadd a (-a)
  rw [Int.add_right_neg, V.i0] at h
  grind
theorem GV.isub (a b : Int) : V.i (a - b) = V.i a - V.i b := by
  rw [Int.sub_eq_add_neg, V.iadd, V.ineg]
  grind
theorem GV.ine {d : Int} (h : d ≠ 0) (h2 : g ≠ 0 → d.fmod g ≠ 0) : V.i d ≠ 0 := fun z => by
  by_cases hg : g = 0
  · exact h ((V.ker d z).1 hg)
  · exact h2 hg ((V.ker d z).2 hg)
theorem TN.inv {k : Nat} {a : Int × Int} (hg : g = 0 ∨ Gr5 g) (h : TN g k a) : a.2 ≠ 0 ∧ (g ≠ 0 → a.2.fmod g ≠ 0) := by
  refine ⟨by have := h.pos; omega, fun z => ?_⟩
  rw [h.one (h.gpos z)]
  exact one_fmod (hg.resolve_left z)
theorem GV.tn {k : Nat} {a : Int × Int} (hg : g = 0 ∨ Gr5 g) (h : TN g k a) : V.e a * V.i a.2 = V.i a.1 ∧ V.i a.2 ≠ 0 := ⟨V.ei a (h.inv hg).1 (h.inv hg).2, V.ine (h.inv hg).1 (h.inv hg).2⟩
/-- numbers are told by their elements -/
theorem GV.inj {k l : Nat} {a b : Int × Int} (hg : g = 0 ∨ Gr5 g) (ha : TN g k a) (hb : TN g l b) (h : V.e a = V.e b) : a = b := by
  obtain ⟨e1, n1⟩ := V.tn hg ha
  obtain ⟨e2, n2⟩ := V.tn hg hb
  have e3 : V.i (a.1 * b.2 - b.1 * a.2) = 0 := by
    rw [V.isub, V.imul, V.imul, ← e1, ← e2, h]
    grind
  rcases hg with rfl | h5
  · have := (V.ker _ e3).1 rfl
    exact red_uniq ha.red hb.red (by omega)
  · have g0 : 0 < g := by unfold Gr5 at h5; omega
    have h1 := ha.one g0
    have h2 := hb.one g0
    have e4 := (V.ker _ e3).2 (by omega)
    rw [h1, h2, Int.mul_one, Int.mul_one, fmod_pos _ g0] at e4
    rcases ha.1 with ⟨z, _⟩ | ⟨_, a0, a1, _⟩
    · omega
    rcases hb.1 with ⟨z, _⟩ | ⟨_, b0, b1, _⟩
    · omega
    have e5 : a.1 % g = b.1 % g := Int.emod_eq_emod_iff_emod_sub_eq_zero.mpr e4
    rw [Int.emod_eq_of_lt a0 a1, Int.emod_eq_of_lt b0 b1] at e5
    exact Prod.ext e5 (by rw [h1, h2])
/-- what lowest terms come to -/
theorem GV.low {u d : Int} (hg : g = 0 ∨ Gr5 g) (hd : d ≠ 0) (h2 : g ≠ 0 → d.fmod g ≠ 0) : V.e (lowF g u d) * V.i d = V.i u := by
  obtain ⟨K, h4, hu, hdd⟩ : ∃ K, 4 ≤ K ∧ u.natAbs < 2 ^ K ∧ d.natAbs < 2 ^ K := by
    refine ⟨u.natAbs + d.natAbs + 4, by omega, ?_, ?_⟩
    · exact Nat.lt_of_lt_of_le Nat.lt_two_pow_self (Nat.pow_le_pow_right (by decide) (by omega))
    · exact Nat.lt_of_lt_of_le Nat.lt_two_pow_self (Nat.pow_le_pow_right (by decide) (by omega))
  have t := tn_low (u := u) hg hd h2 h4 hu hdd
  obtain ⟨e1, n1⟩ := V.tn hg t
  refine V.cancel ?_ n1
  have e3 : V.i ((lowF g u d).1 * d) = V.i (u * (lowF g u d).2) := by
    rcases hg with rfl | h5
    · rw [(low0_red hd).2]
    · have g0 : 0 < g := by unfold Gr5 at h5; omega
      obtain ⟨f, f1, f2, f3⟩ := inv_of h5 (h2 (by omega))
      rw [low_inv g0 f3]
      show V.i ((u * f).fmod g * d) = V.i (u * 1)
      have e4 : V.i ((u * f).fmod g * d - u * 1) = 0 := by
        have e5 : ((u * f).fmod g * d - u * 1) = g * (u * (f * d).fdiv g - (u * f).fdiv g * d) := by
          have m1 := Int.mul_fdiv_add_fmod (u * f) g
          have m2 := Int.mul_fdiv_add_fmod (f * d) g
          rw [f3] at m2
          have x1 : (u * f).fmod g = u * f - g * (u * f).fdiv g := by omega
          have x2 : (1 : Int) = f * d - g * (f * d).fdiv g := by omega
          rw [x1]
          have x3 : u * 1 = u * (f * d - g * (f * d).fdiv g) := by rw [← x2]
          rw [x3]
          grind
        rw [e5, V.imul]
        have ig : V.i g = 0 := by
          exact V.gz (by omega)
        rw [ig]
        grind
      rw [V.isub] at e4
      grind
  rw [V.imul, V.imul] at e3
  grind
theorem GV.plus {k l : Nat} {a c : Int × Int} (hg : g = 0 ∨ Gr5 g) (ha : TN g k a) (hc : TN g l c) : V.e (plusF g a c) = V.e a + V.e c := by
  obtain ⟨e1, n1⟩ := V.tn hg ha
  obtain ⟨e2, n2⟩ := V.tn hg hc
  have hd : a.2 * c.2 ≠ 0 := Int.mul_ne_zero (ha.inv hg).1 (hc.inv hg).1
  have hd2 : g ≠ 0 → (a.2 * c.2).fmod g ≠ 0 := fun z => by
    have g0 := ha.gpos z
    rw [ha.one g0, hc.one g0]
    exact one_fmod (hg.resolve_left z)
  have e3 := V.low (u := a.1 * c.2 + c.1 * a.2) hg hd hd2
  have n3 := V.ine hd hd2
  refine V.cancel (z := V.i (a.2 * c.2)) ?_ n3
  show V.e (lowF g (a.1 * c.2 + c.1 * a.2) (a.2 * c.2)) * V.i (a.2 * c.2) = _
  rw [e3, V.iadd, V.imul, V.imul, V.imul, ← e1, ← e2]
  grind
theorem GV.times {k l : Nat} {a c : Int × Int} (hg : g = 0 ∨ Gr5 g) (ha : TN g k a) (hc : TN g l c) : V.e (timesF g a c) = V.e a * V.e c := by
  obtain ⟨e1, n1⟩ := V.tn hg ha
  obtain ⟨e2, n2⟩ := V.tn hg hc
  have hd : a.2 * c.2 ≠ 0 := Int.mul_ne_zero (ha.inv hg).1 (hc.inv hg).1
  have hd2 : g ≠ 0 → (a.2 * c.2).fmod g ≠ 0 := fun z => by
    have g0 := ha.gpos z
    rw [ha.one g0, hc.one g0]
    exact one_fmod (hg.resolve_left z)
  have e3 := V.low (u := a.1 * c.1) hg hd hd2
  have n3 := V.ine hd hd2
  refine V.cancel (z := V.i (a.2 * c.2)) ?_ n3
  show V.e (lowF g (a.1 * c.1) (a.2 * c.2)) * V.i (a.2 * c.2) = _
  rw [e3, V.imul, V.imul, ← e1, ← e2]
  grind
theorem GV.minus {k : Nat} {a : Int × Int} (hg : g = 0 ∨ Gr5 g) (ha : TN g k a) : V.e (minusF g a) = -V.e a := by
  obtain ⟨e1, n1⟩ := V.tn hg ha
  have e3 := V.low (u := 0 - a.1) hg (ha.inv hg).1 (ha.inv hg).2
  refine V.cancel (z := V.i a.2) ?_ n1
  show V.e (lowF g (0 - a.1) a.2) * V.i a.2 = _
  rw [e3, V.isub, V.i0, ← e1]
  grind
def overF (g : Int) (x y : Int × Int) : Int × Int := lowF g (x.1 * y.2) (x.2 * y.1)
theorem TN.top {k : Nat} {a : Int × Int} (h : TN g k a) (hz : a.1 ≠ 0) : g ≠ 0 → a.1.fmod g ≠ 0 := fun z => by
  have g0 := h.gpos z
  rcases h.1 with ⟨e, _⟩ | ⟨_, a0, a1, _⟩
  · exact absurd e z
  · rw [fmod_pos _ g0, Int.emod_eq_of_lt a0 a1]
    exact hz
theorem GV.over {k l : Nat} {a c : Int × Int} (hg : g = 0 ∨ Gr5 g) (ha : TN g k a) (hc : TN g l c) (hz : c.1 ≠ 0) : V.e (overF g a c) * V.e c = V.e a := by
  obtain ⟨e1, n1⟩ := V.tn hg ha
  obtain ⟨e2, n2⟩ := V.tn hg hc
  have hd : a.2 * c.1 ≠ 0 := Int.mul_ne_zero (ha.inv hg).1 hz
  have hd2 : g ≠ 0 → (a.2 * c.1).fmod g ≠ 0 := fun z => by
    have g0 := ha.gpos z
    rw [ha.one g0, Int.one_mul]
    exact hc.top hz z
  have e3 := V.low (u := a.1 * c.2) hg hd hd2
  have n3 := V.ine hz (hc.top hz)
  refine V.cancel (z := V.i a.2 * V.i c.2) ?_ (fun z => n2 (V.dom z n1))
  have e4 : V.e (overF g a c) * V.i (a.2 * c.1) = V.i (a.1 * c.2) := e3
  rw [V.imul, V.imul] at e4
  grind
theorem GV.zero : V.e (0, 1) = 0 := by
  have h := V.ei (0, 1) (by decide) (fun z => ?_)
  · rw [V.i0, V.i1] at h
    grind
  · show (1 : Int).fmod g ≠ 0
    intro w
    have := V.ker 1
    rw [V.i1] at this
    have h5 : ∃ x : Int, 1 = g * x := ⟨(1 : Int).fdiv g, by have := Int.mul_fdiv_add_fmod 1 g; omega⟩
    obtain ⟨x, hx⟩ := h5
    have h6 := V.imul g x
    rw [← hx, V.i1, V.gz z] at h6
    exact V.ne (by grind)
theorem GV.one : V.e (1, 1) = 1 := by
  have h := V.ei (1, 1) (by decide) (fun z => ?_)
  · rw [V.i1] at h
    grind
  · show (1 : Int).fmod g ≠ 0
    intro w
    have h5 : ∃ x : Int, 1 = g * x := ⟨(1 : Int).fdiv g, by have := Int.mul_fdiv_add_fmod 1 g; omega⟩
    obtain ⟨x, hx⟩ := h5
    have h6 := V.imul g x
    rw [← hx, V.i1, V.gz z] at h6
    exact V.ne (by grind)
end
/-- the fractions -/
def gvQ : GV 0 Rat where
  i := fun z => (z : Rat)
  e := qv
  iadd := fun a b => by exact_mod_cast rfl
  imul := fun a b => by exact_mod_cast rfl
  i0 := by exact_mod_cast rfl
  i1 := by exact_mod_cast rfl
  ker := fun z h => ⟨fun _ => by exact_mod_cast h, fun w => absurd rfl w⟩
  inv := fun x hx => ⟨x⁻¹, by grind⟩
  ei := fun a h _ => by
    have := rat_ne h
    unfold qv
    grind
  ne := by decide
  gz := fun w => absurd rfl w
/-- a wheel -/
def fi (n : Nat) [NeZero n] (z : Int) : Fin n := @IntCast.intCast (Fin n) Ring.intCast z
theorem fi_zero (n : Nat) [NeZero n] (z : Int) : fi n z = 0 ↔ z % (n : Int) = 0 := IsCharP.intCast_eq_zero_iff (α := Fin n) n z
theorem fi_sub (n : Nat) [NeZero n] (a b : Int) : fi n (a - b) = fi n a - fi n b := Ring.intCast_sub a b
theorem fi_mul (n : Nat) [NeZero n] (a b : Int) : fi n (a * b) = fi n a * fi n b := Ring.intCast_mul a b
def gvW (n : Nat) [NeZero n] (h1 : 1 < n) (hinv : ∀ x : Fin n, x ≠ 0 → ∃ y, x * y = 1) (h5 : Gr5 (n : Int)) : GV (n : Int) (Fin n) where
  i := fi n
  e := fun a => fi n (lowF (n : Int) a.1 a.2).1
  iadd := fun a b => Ring.intCast_add a b
  imul := fi_mul n
  i0 := Ring.intCast_zero
  i1 := Ring.intCast_one
  ker := fun z h => ⟨fun w => absurd w (by omega), fun _ => by
    have := (fi_zero n z).mp h
    rw [fmod_pos _ (by omega)]
    exact this⟩
  inv := hinv
  ei := fun a h h2 => by
    have g0 : (0 : Int) < (n : Int) := by omega
    obtain ⟨f, f1, f2, f3⟩ := inv_of h5 (h2 (by omega))
    rw [low_inv g0 f3]
    show fi n ((a.1 * f).fmod (n : Int)) * fi n a.2 = fi n a.1
    have e4 : fi n ((a.1 * f).fmod (n : Int) * a.2 - a.1) = 0 := by
      refine (fi_zero n _).mpr ?_
      have e5 : ((a.1 * f).fmod (n : Int) * a.2 - a.1) = (n : Int) * (a.1 * (f * a.2).fdiv n - (a.1 * f).fdiv n * a.2) := by
        have m1 := Int.mul_fdiv_add_fmod (a.1 * f) n
        have m2 := Int.mul_fdiv_add_fmod (f * a.2) n
        rw [f3] at m2
        have x1 : (a.1 * f).fmod (n : Int) = a.1 * f - n * (a.1 * f).fdiv n := by omega
        have x2 : (1 : Int) = f * a.2 - n * (f * a.2).fdiv n := by omega
        rw [x1]
        have x3 : a.1 = a.1 * (f * a.2 - n * (f * a.2).fdiv n) := by rw [← x2, Int.mul_one]
        grind
      rw [e5]
      exact Int.mul_emod_right _ _
    rw [fi_sub, fi_mul] at e4
    grind
  ne := fun z => by
    have := (fi_zero n 1).mp (by rw [← z]; exact Ring.intCast_one)
    rw [Int.emod_eq_of_lt (by omega) (by omega)] at this
    omega
  gz := fun _ => (fi_zero n n).mpr (Int.emod_self)
theorem gvW_5 {g : Int} (h : Gr5 g) : ∃ n : Nat, ∃ _ : NeZero n, ∃ V : GV g (Fin n), True := by
  unfold Gr5 at h
  rcases h with rfl | rfl | rfl | rfl | rfl
  · exact ⟨3, inferInstance, gvW 3 (by decide) (by decide) (by unfold Gr5; omega), trivial⟩
  · exact ⟨5, inferInstance, gvW 5 (by decide) (by decide) (by unfold Gr5; omega), trivial⟩
  · exact ⟨7, inferInstance, gvW 7 (by decide) (by decide) (by unfold Gr5; omega), trivial⟩
  · exact ⟨11, inferInstance, gvW 11 (by decide) (by decide) (by unfold Gr5; omega), trivial⟩
  · exact ⟨13, inferInstance, gvW 13 (by decide) (by decide) (by unfold Gr5; omega), trivial⟩
/-- every ground has its field -/
theorem gv_any {g : Int} (h : g = 0 ∨ Gr5 g) : ∃ F : Type, ∃ _ : CommRing F, Nonempty (GV g F) := by
  rcases h with rfl | h
  · exact ⟨Rat, inferInstance, ⟨gvQ⟩⟩
  · obtain ⟨n, hn, V, _⟩ := gvW_5 h
    exact ⟨Fin n, inferInstance, ⟨V⟩⟩
end Fm

namespace PySem
namespace Fm6
open PySem.W
/-- what a built-in exception class tells of its own __init__ when it stands behind super() -/
structure SupB (B ini : String) (tl : List Value) : Prop where
  typ : typeOf (.builtin ini) = pure (.type "wrapper_descriptor")
  nam : (kfb_private% "nameAndClass") (Value.builtin ini) = (pure (("__init__" : Str), Value.type B) : Sem (Str × Value))
  along : ∀ K : W.Frag, W.alongIn K "__init__" tl = some (some (.builtin ini))
  quiet : ini.startsWith "lifetime." = false
/-- __init__ of a built-in class, bound to x -/
abbrev bnd (ini : String) (x : Addr) : Obj := { cls := .type "method-wrapper", dict := none, data := .fields #[.builtin ini, .ref x], slots := #[] }
section
variable {prog : Program} {w : World} {M : Model} {A : Around} {E : Value → Shared → Prop} {h : Heap} {g : Array GenState} {d : Drawn} {t : Nat} {os : OsState} {B ini : String} {tl : List Value}
end
section
open PySem.Calls PyProof.Rows
variable {prog : Program} {w : World} {M : Model} {A : Around} {E : Value → Shared → Prop} {s : Shared} {ini : String}
end
section
variable {prog : Program} {w : World} {A : Around} {E : Value → Shared → Prop} {h : Heap} {g : Array GenState} {d : Drawn} {t : Nat} {os : OsState} {B ini newId : String} {bmB : List Value}
variable {nm q : Str} {C N : Addr} {bs bm : List Value} {hdct : Bool} {sn : List Str} {sub : List Value} {ab : Bool} {col : Option Bool} {dd : Option Addr} {k0 k1 k2 k3 k5 : Option Value}
end
end Fm6
end PySem

namespace L2
open PySem PySem.Spec PyProof.Rows
/-- what the written part says of a class of the program right over the built-in class B -/
structure OexB (K : PySem.W.Frag) (C : Addr) (newId : String) (tl : List Value) : Prop where
  cls : ∃ nm q N bs sn sub ab col dd k0 k1 k2 k3 k5, K.lookup C = some (excClassObj nm q C N bs tl true sn sub ab col dd k0 k1 k2 k3 k5 newId)
  sa : PySem.W.findIn K (.ref C) "__setattr__" = some (some (.builtin "object.__setattr__"))
  exC : PySem.W.subIn K (.ref C) (.type "BaseException") = some true
  tyC : PySem.W.typeIn K (.ref C) = some (.type "type")
  kC : PySem.W.keepIn K (.ref C) = true
section
variable {X : Cx} {e : Expr} {es : List Expr} {ta : TA} {p pos : Pos} {B newId ini : String} {tl : List Value}
/-- C(..), C right over B, with an __init__ of its own -/
theorem pmk_oxb {CX : CXT} {x : Str} {C fI : Addr} {k : Nat} {fd : FuncData} {ps : List Str} {sp : Sp} {ds : List Value} {dvs : List V} (G : ExcBaseFacts B newId ini tl) (T : OexB X.K C newId tl) (iC : PySem.W.findIn X.K (.ref C) "__init__" = some (some (.ref fI)))
    (tI : PySem.W.typeIn X.K (.ref fI) = some (.type "function")) (F1 : FnOk X.prog X.w X.K X.mg X.base CX k fI fd ps sp) (hr : Room (k + 1) X.A) (hb : Binds X.K fd ps ds) (hd : Vals dvs ds) (hx : Passes CX X (fun _ _ _ => False)) (hg : Gl X x) (hm : X.mg x = some (.ref C))
    (ha : PA X (e :: es) ta) (hdb : (x == ("__debug__" : Str)) = false := by decide) (he : starEach (e :: es) X.env = (false, eval e X.env) :: starEach es X.env := by rfl) (hpl : (backTo pos (starEach es X.env)).any (·.1) = false := by rfl) :
    PMk X (.Call (.Name x p) (e :: es) [] pos) (tMkO C sp dvs ta) := by
  intro pins s σ H Q I h
  obtain ⟨nm, q, N, bs, sn, sub, ab, col, dd, k0, k1, k2, k3, k5, hC⟩ := T.cls
  refine wpAny_Call_Name_kw (ld_glob I hg hm ?_ hdb)
  refine PySem.W.callWith_K (h₀ := X.base) I.ok.mod.kin T.kC (thn (ha.run pos pins s σ H _ I h) fun us s1 b1 => ?_) he hpl
  obtain ⟨vs, H1, I1, r1, hz, q1⟩ := b1
  refine ⟨I1.kIn, ?_⟩
  show wpAny _ _ (call (.ref C) us) _ _ _
  obtain ⟨hp, g, dr, tk, os⟩ := s1
  have b2 : H1 (hp.objs.size + 1) = none := I1.hok.fresh (Nat.le_succ _)
  have b3 := q1 (hp.objs.size + 1) b2
  have b4 : ∀ b o, hp.get? b = some o → ((hp.push (PySem.W.kdv_tup us)).push (PySem.HandSPX.excO C hp.objs.size)).get? b = some o := fun b o z => Heap.get?_push_of_some _ (Heap.get?_push_of_some _ z)
  have b5 : ((hp.push (PySem.W.kdv_tup us)).push (PySem.HandSPX.excO C hp.objs.size)).get? (hp.objs.size + 1) = some (PySem.HandSPX.excO C hp.objs.size) := by heap_get
  have I2 := I1.laid (t' := tk) (a := hp.objs.size + 1) (o := exo (hp.objs.size + 1) C none) b4 (Nat.le_succ _) (exo_ok b5)
  have b6 : Vals (V.ref (hp.objs.size + 1) :: (vs ++ dvs)) (Value.ref (hp.objs.size + 1) :: (us ++ ds)) := .cons rfl (r1.append hd)
  have b7 : (Value.ref (hp.objs.size + 1) :: us ++ ds).length = ps.length := ((F1.len _ _ _ _ b3).symm.trans b6.length).symm
  have b8 : us.length ≤ sizeLine := by
    have := Paired.length r1
    rw [sizeLine_eq]
    omega
  refine wpAny_call (PySem.HandSPX.call_own G (fun Y => rfl) (I1.kIn _ _ hC) (PySem.W.looks_findIn I1.kIn iC) (fun self => PySem.W.bind_fn I1.kIn self tI) b8 ?_)
  refine codeAny_mono (F1.run _ X.stack _ _ ⟨Value.ref (hp.objs.size + 1) :: us, []⟩ (Value.ref (hp.objs.size + 1) :: (us ++ ds)) _ _ (fun _ _ _ => False) (hr.make C us []) (I2.env0.make C us []) (hb _ (Value.ref (hp.objs.size + 1) :: us) I2.kIn b7) b6 b3) fun r s' b9 => ?_
  cases r with
  | error er => exact hx pins σ _ _ er s' I2 b9
  | ok fl =>
    cases fl with
    | ret u =>
      obtain ⟨v, H2, os2, bare2, un2, hok2, rv, ev, d, fs, ea, ed, hd1, q2⟩ := b9
      subst ev
      obtain ⟨h2, g2, d2, t2, os'⟩ := s'
      exact ⟨rv, mk_end (raises_own T.exC T.tyC) I1 (Nat.le_succ _) b4 un2 hok2 os2 bare2 ea ed hd1 q2⟩
    | next => exact False.elim b9
    | brk => exact False.elim b9
    | cont => exact False.elim b9
end
end L2

namespace PySem
namespace Fm6
open PySem.W Builtin Builtin.ObjectAttr
section
variable {prog : Program} {w : World} {A : Around} {R : Result → Shared → Prop} {hp : Heap} {g : Array GenState} {d : Drawn} {t : Nat} {os : OsState} {tl : List Value}
end
end Fm6
end PySem

namespace PySem
namespace Fm6
open PySem.W PySem.Calls PyProof.Rows Builtin Builtin.ObjectAttr
/-- the two rows of such an __init__ -/
abbrev iBody (txt sf fld par : Str) (p0 p1 p2 p3 p4 p5 q0 q1 q2 q3 : Pos) (j : Nat) : List Stmt :=
  [.Expr (.Call (.Attribute (.Call (.Name "super" p0) [] [] p1) "__init__" p2) [.Constant (.str txt) j p5] [] p3) p4, .Assign [.Attribute (.Name sf q0) fld q1] (.Name par q2) q3]
section
variable {prog : Program} {w : World} {A : Around} {E : Value → Shared → Prop} {h : Heap} {g : Array GenState} {d : Drawn} {t : Nat} {os : OsState} {B ini newId : String} {tl : List Value} {K : Frag}
variable {nm q : Str} {C N : Addr} {bs : List Value} {sn : List Str} {sub : List Value} {ab : Bool} {col : Option Bool} {dd : Option Addr} {k0 k1 k2 k3 k5 : Option Value}
end
end Fm6
end PySem

namespace L2
open PySem PySem.Spec PyProof.Rows PySem.W PySem.Fm6
/-- what such an __init__ promises -/
def spInit (C : Addr) (fld : Str) : Sp := fun vs H Q _ => ∃ (a : Addr) (y : V), vs = [.ref a, y] ∧ H a = some (exo a C none) ∧ ∀ dx, H dx = none → dx ≠ a → Q .non (upd (upd H dx (exd dx [(fld, y)])) a (exo a C (some dx)))
section
variable {P : Program} {w : World} {K : Frag} {mg : Str → Option Value} {base : Heap} {CX : CXT} {k : Nat} {B ini newId : String} {tl : List Value} {C : Addr}
end
end L2

namespace L2N
open PySem PySem.Spec PyProof.Rows L2
section
variable {X : Cx} {e : Expr} {es : List Expr} {ta : TA} {p pos : Pos} {B newId ini : String} {tl : List Value}
/-- C(..), C right over B, with an __init__ of its own -/
theorem pmk_oxb {CX : CXT} {x : Str} {C fI : Addr} {k : Nat} {fd : FuncData} {ps : List Str} {sp : Sp} {ds : List Value} {dvs : List V} (G : ExcBaseFacts B newId ini tl) (T : OexB X.K C newId tl) (iC : PySem.W.findIn X.K (.ref C) "__init__" = some (some (.ref fI)))
    (tI : PySem.W.typeIn X.K (.ref fI) = some (.type "function")) (F1 : FnOk X.prog X.w X.K X.mg X.base CX k fI fd ps sp) (hr : Room (k + 1) X.A) (hb : Binds X.K fd ps ds) (hd : Vals dvs ds) (hx : Passes CX X (fun _ _ _ => False)) (hg : Gl X x) (hm : X.mg x = some (.ref C))
    (ha : PA X (e :: es) ta) (hdb : (x == ("__debug__" : Str)) = false := by decide) (he : starEach (e :: es) X.env = (false, eval e X.env) :: starEach es X.env := by rfl) (hpl : (backTo pos (starEach es X.env)).any (·.1) = false := by rfl) :
    L2N.PMk X (.Call (.Name x p) (e :: es) [] pos) (tMkO C sp dvs ta) := by
  intro pins s σ H Q I h
  obtain ⟨nm, q, N, bs, sn, sub, ab, col, dd, k0, k1, k2, k3, k5, hC⟩ := T.cls
  refine wpAny_Call_Name_kw (ld_glob I hg hm ?_ hdb)
  refine PySem.W.callWith_K (h₀ := X.base) I.ok.mod.kin T.kC (thn (ha.run pos pins s σ H _ I h) fun us s1 b1 => ?_) he hpl
  obtain ⟨vs, H1, I1, r1, hz, q1⟩ := b1
  refine ⟨I1.kIn, ?_⟩
  show wpAny _ _ (call (.ref C) us) _ _ _
  obtain ⟨hp, g, dr, tk, os⟩ := s1
  have b2 : H1 (hp.objs.size + 1) = none := I1.hok.fresh (Nat.le_succ _)
  have b3 := q1 (hp.objs.size + 1) b2
  have b4 : ∀ b o, hp.get? b = some o → ((hp.push (PySem.W.kdv_tup us)).push (PySem.HandSPX.excO C hp.objs.size)).get? b = some o := fun b o z => Heap.get?_push_of_some _ (Heap.get?_push_of_some _ z)
  have b5 : ((hp.push (PySem.W.kdv_tup us)).push (PySem.HandSPX.excO C hp.objs.size)).get? (hp.objs.size + 1) = some (PySem.HandSPX.excO C hp.objs.size) := by heap_get
  have I2 := I1.laid (t' := tk) (a := hp.objs.size + 1) (o := exo (hp.objs.size + 1) C none) b4 (Nat.le_succ _) (exo_ok b5)
  have b6 : Vals (V.ref (hp.objs.size + 1) :: (vs ++ dvs)) (Value.ref (hp.objs.size + 1) :: (us ++ ds)) := .cons rfl (r1.append hd)
  have b7 : (Value.ref (hp.objs.size + 1) :: us ++ ds).length = ps.length := ((F1.len _ _ _ _ b3).symm.trans b6.length).symm
  have b8 : us.length ≤ sizeLine := by
    have := Paired.length r1
    rw [sizeLine_eq]
    omega
  refine wpAny_call (PySem.HandSPX.call_own G (fun Y => rfl) (I1.kIn _ _ hC) (PySem.W.looks_findIn I1.kIn iC) (fun self => PySem.W.bind_fn I1.kIn self tI) b8 ?_)
  refine codeAny_mono (F1.run _ X.stack _ _ ⟨Value.ref (hp.objs.size + 1) :: us, []⟩ (Value.ref (hp.objs.size + 1) :: (us ++ ds)) _ _ (fun _ _ _ => False) (hr.make C us []) (I2.env0.make C us []) (hb _ (Value.ref (hp.objs.size + 1) :: us) I2.kIn b7) b6 b3) fun r s' b9 => ?_
  cases r with
  | error er => exact hx pins σ _ _ er s' I2 b9
  | ok fl =>
    cases fl with
    | ret u =>
      obtain ⟨v, H2, os2, bare2, un2, hok2, rv, ev, d, fs, ea, ed, hd1, q2⟩ := b9
      subst ev
      obtain ⟨h2, g2, d2, t2, os'⟩ := s'
      obtain ⟨t0, G2, J, kG, ge, hoe, na⟩ := mk_end0 (d2 := d2) (t2 := t2) I1 (Nat.le_succ _) b4 un2 hok2 os2 bare2 ea ed hd1
      refine ⟨rv, hp.objs.size + 1, _, _, ⟨G2, g2, d2, t2, os'⟩, _, .ref C, some d, rfl, J, kG, ge, hoe, ⟨rfl, rfl, ?_⟩, rfl, rfl, na, rfl, bare2, raises_own T.exC T.tyC, q2⟩
      intro vs z
      cases z
      rfl
    | next => exact False.elim b9
    | brk => exact False.elim b9
    | cont => exact False.elim b9
end
end L2N

namespace Fm
open PySem PySem.Spec PyProof.Rows L2 PySem.Fm6
/-- what is known of OverNought where it is raised -/
structure OverC (P : Program) (w : World) (K : PySem.W.Frag) (mg : Str → Option Value) (base : Heap) (fI : Addr) (fd : FuncData) : Prop where
  T : OexB K (He.ga K "OverNought") "ZeroDivisionError.__new__" [.type "ZeroDivisionError", .type "ArithmeticError", .type "Exception", .type "BaseException", .type "object"]
  i : PySem.W.findIn K (.ref (He.ga K "OverNought")) "__init__" = some (some (.ref fI))
  ty : PySem.W.typeIn K (.ref fI) = some (.type "function")
  fn : FnOk P w K mg base C8.CX0 1 fI fd ["self", "top"] (spInit (He.ga K "OverNought") "top")
  b : Binds K fd ["self", "top"] []
  g : mg "OverNought" = some (.ref (He.ga K "OverNought"))
/-- one number over another -/
def ovrF (g : Int) (x y : Int × Int) : Int × Int := lowF g (x.1 * y.2) (x.2 * y.1)
theorem TN.topN {g : Int} {k : Nat} {a : Int × Int} (h : TN g k a) (hz : a.1 ≠ 0) : g ≠ 0 → a.1.fmod g ≠ 0 := fun z => by
  have g0 := h.gpos z
  rcases h.1 with ⟨w, _⟩ | ⟨_, a0, a1, _⟩
  · exact absurd w z
  · rw [fmod_pos _ g0, Int.emod_eq_of_lt a0 a1]
    exact hz
end Fm

namespace Fm
open Lean.Grind PySem L2
/-- one number less another -/
def lessF (g : Int) (x y : Int × Int) : Int × Int := lowF g (x.1 * y.2 - y.1 * x.2) (x.2 * y.2)
section
variable {g : Int} {k l : Nat} {a c : Int × Int}
theorem dn2 (hg : g = 0 ∨ Gr5 g) (ha : TN g k a) (hc : TN g l c) : a.2 * c.2 ≠ 0 ∧ (g ≠ 0 → (a.2 * c.2).fmod g ≠ 0) := by
  refine ⟨Int.mul_ne_zero (ha.inv hg).1 (hc.inv hg).1, fun z => ?_⟩
  have g0 := ha.gpos z
  rw [ha.one g0, hc.one g0]
  exact one_fmod (hg.resolve_left z)
theorem dif_lt {u v : Int} {k : Nat} (h1 : u.natAbs < 2 ^ k) (h2 : v.natAbs < 2 ^ k) : (u - v).natAbs < 2 ^ (k + 1) := by
  rw [Nat.pow_succ]
  omega
theorem tn_less (hg : g = 0 ∨ Gr5 g) (ha : TN g k a) (hc : TN g l c) (hk : 4 ≤ k) : TN g (k + l + 1) (lessF g a c) :=
  tn_low hg (dn2 hg ha hc).1 (dn2 hg ha hc).2 (by omega) (dif_lt (wide_lt ha.2.1 hc.2.2) (by have := wide_lt hc.2.1 ha.2.2; rwa [Nat.add_comm] at this))
    (Nat.lt_of_lt_of_le (wide_lt ha.2.2 hc.2.2) (Nat.pow_le_pow_right (by decide) (Nat.le_succ _)))
theorem GV.less {F : Type} [CommRing F] (V : GV g F) (hg : g = 0 ∨ Gr5 g) (ha : TN g k a) (hc : TN g l c) : V.e (lessF g a c) = V.e a - V.e c := by
  obtain ⟨e1, n1⟩ := V.tn hg ha
  obtain ⟨e2, n2⟩ := V.tn hg hc
  have e3 := V.low (u := a.1 * c.2 - c.1 * a.2) hg (dn2 hg ha hc).1 (dn2 hg ha hc).2
  have e4 : V.e (lessF g a c) * V.i (a.2 * c.2) = V.i (a.1 * c.2 - c.1 * a.2) := e3
  refine V.cancel (z := V.i a.2 * V.i c.2) ?_ (fun z => n2 (V.dom z n1))
  rw [V.isub, V.imul, V.imul, V.imul] at e4
  grind
/-- less: plus the contrary -/
theorem less_eq (hg : g = 0 ∨ Gr5 g) (ha : TN g k a) (hc : TN g l c) (hk : 4 ≤ k) (hl : 4 ≤ l) : plusF g a (minusF g c) = lessF g a c := by
  obtain ⟨F, R, ⟨V⟩⟩ := gv_any hg
  have m := tn_minus hg hc hl
  refine V.inj hg (tn_plus hg ha m hk) (tn_less hg ha hc hk) ?_
  rw [V.plus hg ha m, V.minus hg hc, V.less hg ha hc]
  grind
/-- what is divided is a number again -/
theorem tn_ovr (hg : g = 0 ∨ Gr5 g) (ha : TN g k a) (hc : TN g l c) (hk : 4 ≤ k) (hz : c.1 ≠ 0) : TN g (k + l) (ovrF g a c) :=
  tn_low hg (Int.mul_ne_zero (ha.inv hg).1 hz) (fun z => by
    rw [ha.one (ha.gpos z), Int.one_mul]
    exact hc.topN hz z) (by omega) (wide_lt ha.2.1 hc.2.2) (wide_lt ha.2.2 hc.2.1)
end
end Fm

namespace Fm
open Lean.Grind PySem L2
/-! ### sums of products, and numbers of four parts -/
section
variable {g : Int} {F : Type} [CommRing F]
theorem tn_zero (hg : g = 0 ∨ Gr5 g) : TN g 4 (0, 1) := by
  refine ⟨?_, by decide, by decide⟩
  rcases hg with h | h
  · exact .inl ⟨h, by decide, by decide⟩
  · refine .inr ⟨?_, by decide, ?_, rfl⟩
    · unfold Gr5 at h; omega
    · show (0 : Int) < g
      unfold Gr5 at h; omega
theorem tn_one (hg : g = 0 ∨ Gr5 g) : TN g 4 (1, 1) := by
  refine ⟨?_, by decide, by decide⟩
  rcases hg with h | h
  · exact .inl ⟨h, by decide, by decide⟩
  · refine .inr ⟨?_, by decide, ?_, rfl⟩
    · unfold Gr5 at h; omega
    · show (1 : Int) < g
      unfold Gr5 at h; omega
theorem GV.fold (V : GV g F) (hg : g = 0 ∨ Gr5 g) {m : Nat} : ∀ (as : List (Int × Int)) (p : Int × Int) (l : Nat), TN g l p → 4 ≤ l → (∀ a ∈ as, TN g m a) → V.e (as.foldl (plusF g) p) = (as.map V.e).foldl (· + ·) (V.e p)
  | [], p, l, hp, _, _ => rfl
  | a :: as, p, l, hp, hl, h => by
    have ha := h a (List.mem_cons_self ..)
    have h1 := tn_plus hg hp ha hl
    rw [List.foldl_cons, V.fold hg as _ _ h1 (by omega) fun b hb => h b (List.mem_cons_of_mem _ hb), List.map_cons, List.foldl_cons, V.plus hg hp ha]
theorem GV.cell (V : GV g F) (hg : g = 0 ∨ Gr5 g) {k l : Nat} {r s : List (Int × Int)} (hr : ∀ a ∈ r, TN g k a) (hs : ∀ a ∈ s, TN g l a) (hk : 4 ≤ k) : V.e (cellF g r s) = (List.zipWith (fun a b => V.e a * V.e b) r s).foldl (· + ·) 0 := by
  unfold cellF
  rw [V.fold hg (List.zipWith (timesF g) r s) (0, 1) 4 (tn_zero hg) (Nat.le_refl _) (m := k + l) (fun a ha => by
    obtain ⟨i, hi, rfl⟩ := List.mem_iff_getElem.mp ha
    rw [List.getElem_zipWith]
    rw [List.length_zipWith] at hi
    exact tn_times hg (hr _ (List.getElem_mem (by omega))) (hs _ (List.getElem_mem (by omega))) hk), V.zero, List.map_zipWith]
  congr 1
  refine List.ext_getElem (by rw [List.length_zipWith, List.length_zipWith]) fun i h1 h2 => ?_
  rw [List.length_zipWith] at h1
  rw [List.getElem_zipWith, List.getElem_zipWith, V.times hg (hr _ (List.getElem_mem (by omega))) (hs _ (List.getElem_mem (by omega)))]
theorem GV.injL (V : GV g F) (hg : g = 0 ∨ Gr5 g) {k l : Nat} : ∀ {r s : List (Int × Int)}, (∀ a ∈ r, TN g k a) → (∀ a ∈ s, TN g l a) → r.map V.e = s.map V.e → r = s
  | [], [], _, _, _ => rfl
  | [], _ :: _, _, _, h => by cases h
  | _ :: _, [], _, _, h => by cases h
  | a :: r, c :: s, hr, hs, h => by
    rw [List.map_cons, List.map_cons] at h
    injection h with h1 h2
    rw [V.inj hg (hr a (List.mem_cons_self ..)) (hs c (List.mem_cons_self ..)) h1, V.injL hg (fun x hx => hr x (List.mem_cons_of_mem _ hx)) (fun x hx => hs x (List.mem_cons_of_mem _ hx)) h2]
theorem TN.okn (hg : g = 0 ∨ Gr5 g) {k : Nat} {a : Int × Int} (h : TN g k a) : OkN g k a := by
  refine ⟨h.2.1, h.2.2, ?_⟩
  rcases hg with e | h5
  · exact .inl ⟨e, h.pos⟩
  · have : 3 ≤ g ∧ g ≤ 13 := by unfold Gr5 at h5; omega
    exact .inr ⟨this.1, this.2, h.one (by omega)⟩
/-- the number -1 -/
def m1F (g : Int) : Int × Int := lowF g (-1) 1
theorem tn_m1 (hg : g = 0 ∨ Gr5 g) : TN g 4 (m1F g) := tn_low hg (by decide) (fun z => one_fmod (hg.resolve_left z)) (Nat.le_refl _) (by decide) (by decide)
theorem GV.m1 (V : GV g F) (hg : g = 0 ∨ Gr5 g) : V.e (m1F g) = -1 := by
  have h := V.low (u := -1) (d := 1) hg (by decide) (fun z => one_fmod (hg.resolve_left z))
  rw [V.i1, V.ineg, V.i1] at h
  unfold m1F
  grind
def negF (g : Int) (x : Int × Int) : Int × Int := timesF g x (m1F g)
theorem tn_neg (hg : g = 0 ∨ Gr5 g) {k : Nat} {a : Int × Int} (h : TN g k a) (hk : 4 ≤ k) : TN g (k + 4) (negF g a) := tn_times hg h (tn_m1 hg) hk
theorem GV.neg (V : GV g F) (hg : g = 0 ∨ Gr5 g) {k : Nat} {a : Int × Int} (h : TN g k a) : V.e (negF g a) = - V.e a := by
  unfold negF
  rw [V.times hg h (tn_m1 hg), V.m1 hg]
  grind
/-- the four times 1, i, j, k -/
def unitsF (g : Int) (a b c d : Int × Int) : List (List (Int × Int)) := [[a, b, c, d], [negF g b, a, d, negF g c], [negF g c, negF g d, a, b], [negF g d, c, negF g b, a]]
def fourF (g : Int) : List (Int × Int) → List (Int × Int) → List (Int × Int)
  | [a, b, c, d], s => (turnF 4 (unitsF g a b c d)).map (cellF g s)
  | _, _ => []
theorem four_is (a b c d : Int × Int) (s : List (Int × Int)) : fourF g [a, b, c, d] s = [cellF g s [a, negF g b, negF g c, negF g d], cellF g s [b, a, negF g d, c], cellF g s [c, d, a, negF g b], cellF g s [d, negF g c, b, a]] := rfl
/-- fours in the field -/
def qmul {F : Type} [CommRing F] : List F → List F → List F
  | [a, b, c, d], [e, f, h, k] => [a * e - b * f - c * h - d * k, a * f + b * e + c * k - d * h, a * h - b * k + c * e + d * f, a * k + b * h - c * f + d * e]
  | _, _ => []
theorem GV.four (V : GV g F) (hg : g = 0 ∨ Gr5 g) {k l : Nat} (hk : 4 ≤ k) (hl : 4 ≤ l) {r s : List (Int × Int)} (hr : ∀ x ∈ r, TN g k x) (hs : ∀ x ∈ s, TN g l x) (h4 : r.length = 4) (h5 : s.length = 4) : (fourF g r s).map V.e = qmul (r.map V.e) (s.map V.e) := by
  match r, h4, s, h5 with
  | [a, b, c, d], _, [e, f, h, j], _ =>
    have ha := hr a (by simp)
    have hb := hr b (by simp)
    have hc := hr c (by simp)
    have hd := hr d (by simp)
    have u : ∀ {x}, TN g k x → TN g (k + 4) x := fun h => h.mono (by omega)
    have v : ∀ {x}, TN g k x → TN g (k + 4) (negF g x) := fun h => tn_neg hg h hk
    have key : ∀ x1 x2 x3 x4 : Int × Int, TN g (k + 4) x1 → TN g (k + 4) x2 → TN g (k + 4) x3 → TN g (k + 4) x4 → V.e (cellF g [e, f, h, j] [x1, x2, x3, x4]) = 0 + V.e e * V.e x1 + V.e f * V.e x2 + V.e h * V.e x3 + V.e j * V.e x4 := fun x1 x2 x3 x4 t1 t2 t3 t4 => by
      rw [V.cell hg hs (l := k + 4) (fun x hx => ?_) hl]
      · rfl
      · simp only [List.mem_cons, List.not_mem_nil, or_false] at hx
        rcases hx with rfl | rfl | rfl | rfl <;> assumption
    rw [four_is]
    simp only [List.map_cons, List.map_nil]
    rw [key _ _ _ _ (u ha) (v hb) (v hc) (v hd), key _ _ _ _ (u hb) (u ha) (v hd) (u hc), key _ _ _ _ (u hc) (u hd) (u ha) (v hb), key _ _ _ _ (u hd) (v hc) (u hb) (u ha), V.neg hg hb, V.neg hg hc, V.neg hg hd]
    unfold qmul
    congr 1
    · grind
    congr 1
    · grind
    congr 1
    · grind
    congr 1
    · grind
theorem GV.norm (V : GV g F) (hg : g = 0 ∨ Gr5 g) {k : Nat} (hk : 4 ≤ k) {r : List (Int × Int)} (hr : ∀ x ∈ r, TN g k x) : V.e (cellF g r r) = ((r.map V.e).map fun x => x * x).foldl (· + ·) 0 := by
  rw [V.cell hg hr hr hk, List.zipWith_self, List.map_map]
  rfl
/-- the contrary -/
def turn4F (g : Int) : List (Int × Int) → List (Int × Int)
  | a :: r => a :: r.map (minusF g)
  | [] => []
/-- the law's own products -/
def lsF (g : Int) (l : List ((Int × Int) × (Int × Int) × Int)) : List (Int × Int) := l.map fun t => timesF g (lowF g t.2.2 1) (timesF g t.1 t.2.1)
def lrows (a b c d e f h k : Int × Int) : List (List ((Int × Int) × (Int × Int) × Int)) := [[(a, e, 1), (b, f, -1), (c, h, -1), (d, k, -1)], [(a, f, 1), (b, e, 1), (c, k, 1), (d, h, -1)], [(a, h, 1), (b, k, -1), (c, e, 1), (d, f, 1)], [(a, k, 1), (b, h, 1), (c, f, -1), (d, e, 1)]]
def lfourF (g : Int) : List (Int × Int) → List (Int × Int) → List (Int × Int)
  | [a, b, c, d], [e, f, h, k] => (lrows a b c d e f h k).map fun l => (lsF g l).foldl (plusF g) (0, 1)
  | _, _ => []
def SgOk (g : Int) (k : Nat) (t : (Int × Int) × (Int × Int) × Int) : Prop := TN g k t.1 ∧ TN g k t.2.1 ∧ (t.2.2 = 1 ∨ t.2.2 = -1)
theorem sg_tn (hg : g = 0 ∨ Gr5 g) {s : Int} (h : s = 1 ∨ s = -1) : TN g 4 (lowF g s 1) := tn_low hg (by decide) (fun z => one_fmod (hg.resolve_left z)) (Nat.le_refl _) (by rcases h with rfl | rfl <;> decide) (by decide)
theorem GV.sg (V : GV g F) (hg : g = 0 ∨ Gr5 g) {s : Int} : V.e (lowF g s 1) = V.i s := by
  have h := V.low (u := s) (d := 1) hg (by decide) (fun z => one_fmod (hg.resolve_left z))
  rw [V.i1] at h
  grind
theorem ls_tn (hg : g = 0 ∨ Gr5 g) {k : Nat} (hk : 4 ≤ k) {l : List ((Int × Int) × (Int × Int) × Int)} (h : ∀ t ∈ l, SgOk g k t) : ∀ x ∈ lsF g l, TN g (4 + (k + k)) x := fun x hx => by
  obtain ⟨t, ht, rfl⟩ := List.mem_map.mp hx
  obtain ⟨h1, h2, h3⟩ := h t ht
  exact tn_times hg (sg_tn hg h3) (tn_times hg h1 h2 hk) (Nat.le_refl _)
theorem GV.ls (V : GV g F) (hg : g = 0 ∨ Gr5 g) {k : Nat} (hk : 4 ≤ k) {l : List ((Int × Int) × (Int × Int) × Int)} (h : ∀ t ∈ l, SgOk g k t) : V.e ((lsF g l).foldl (plusF g) (0, 1)) = (l.map fun t => V.i t.2.2 * (V.e t.1 * V.e t.2.1)).foldl (· + ·) 0 := by
  rw [V.fold hg (lsF g l) (0, 1) 4 (tn_zero hg) (Nat.le_refl _) (m := 4 + (k + k)) (ls_tn hg hk h), V.zero]
  congr 1
  unfold lsF
  rw [List.map_map]
  refine List.map_congr_left fun t ht => ?_
  obtain ⟨h1, h2, h3⟩ := h t ht
  show V.e (timesF g (lowF g t.2.2 1) (timesF g t.1 t.2.1)) = _
  rw [V.times hg (sg_tn hg h3) (tn_times hg h1 h2 hk), V.times hg h1 h2, V.sg hg]
end
end Fm

namespace Fm
open PySem PySem.Spec PyProof.Rows L2
theorem ps_never {X : Cx} {st : Stmt} : PS X st (fun _ _ _ => False) := ⟨fun _ _ _ _ _ _ h => h.elim⟩
theorem w_glst {K : PySem.W.Frag} {n : Nat} {t : TGs} {a : Addr} {xs : List V} {σ : L2.St} {H : Hp} {R : L2.St → Hp → Prop} (h : H a = some (.lst xs)) (hn : xs.length = n) (q : t xs σ H R) : gLst K n t (.ref a) σ H R := ⟨a, xs, rfl, SqL.of h, hn, q⟩
theorem grb {g : Int} (h : g = 0 ∨ Gr5 g) : 0 ≤ g ∧ g ≤ 13 := by
  unfold Gr5 at h
  omega
/-- the rows of letters alone -/
def onesF (m : Nat) : List (List (Int × Int)) := (List.range m).map fun i => (List.range m).map fun j => (if i = j then 1 else 0, 1)
end Fm
namespace Fm
open PySem PySem.Spec PyProof.Rows L2
theorem acc_app {α : Type} {P : Hp → V → α → Prop} {H : Hp} {ys : List V} {as : List α} {i : Nat} {v : V} {a : α} (h : Acc P H ys as i) (hl : as.length = i) (hv : P H v a) : Acc P H (ys ++ [v]) (as ++ [a]) (i + 1) := by
  refine ⟨by rw [List.length_append, h.1]; rfl, fun j x b h1 h2 => ?_⟩
  by_cases e : j < i
  · rw [List.getElem?_append_left (by rw [h.1]; exact e)] at h1
    rw [List.getElem?_append_left (by omega)] at h2
    exact h.2 j x b h1 h2
  · have hj : j = i := by
      have := (List.getElem?_eq_some_iff.mp h1).1
      rw [List.length_append, h.1] at this
      simp at this
      omega
    subst hj
    rw [List.getElem?_append_right (by rw [h.1]; exact Nat.le_refl _), h.1, Nat.sub_self] at h1
    rw [List.getElem?_append_right (by omega), hl, Nat.sub_self] at h2
    cases h1
    cases h2
    exact hv
/-- a tuple of two numbers and a sign -/
def Tri3 (H : Hp) (v : V) (t : (Int × Int) × (Int × Int) × Int) : Prop := ∃ p vx vy, v = .ref p ∧ H p = some (.tup [vx, vy, .int t.2.2]) ∧ NumV H vx t.1 ∧ NumV H vy t.2.1
theorem Tri3.kt {H H' : Hp} {v : V} {t : (Int × Int) × (Int × Int) × Int} (h : Tri3 H v t) (s : Kt H H') : Tri3 H' v t := by
  obtain ⟨p, vx, vy, rfl, h1, h2, h3⟩ := h
  exact ⟨p, vx, vy, rfl, s _ _ h1, h2.kt s, h3.kt s⟩
def TriL (H : Hp) (v : V) (l : List ((Int × Int) × (Int × Int) × Int)) : Prop := ∃ p xs, v = .ref p ∧ H p = some (.lst xs) ∧ Acc Tri3 H xs l l.length
theorem TriL.sm {H H' : Hp} {v : V} {l : List ((Int × Int) × (Int × Int) × Int)} (h : TriL H v l) (s : Same H H') : TriL H' v l := by
  obtain ⟨p, xs, rfl, h1, h2⟩ := h
  exact ⟨p, xs, rfl, s _ _ h1, h2.mono fun x a h => h.kt (Kt.of s)⟩
/-- a row of numbers of g, of so many signs -/
def TRow (g : Int) (k : Nat) (H : Hp) (v : V) (r : List (Int × Int)) : Prop := RowV H v r ∧ ∀ a ∈ r, TN g k a
end Fm

namespace Fm
open PySem PySem.Spec PyProof.Rows L2
/-! ### calls with keywords: all parameters are told -/
section
variable {K : PySem.W.Frag} {x qual : Str} {params : Arguments} {body : List Stmt} {scope : Scope} {dvs : List V} {kws : List (Str × V)} {f : Addr} {fd : FuncData} {ps : List Str}
theorem bnd_of (F : FunD K x qual params body scope dvs kws f fd) (n : Nat) (hd : dvs ≠ []) (hn : n = ps.length)
    (h : ∀ (T : Addr) (kV doc pm : Value) (an : Option Addr) (cdv ct : Value) (us its : List Value), us.length = n → its.length = dvs.length → ∃ k, bindArgs (PySem.W.fnOf x qual params body scope (.ref T) kV doc pm an cdv ct) ⟨us, []⟩ = seqItems? (.ref T) >>= k ∧ k (some its.toArray) = pure (ps.zip (us ++ its.drop dvs.length))) : L2.Binds K fd ps [] := by
  obtain ⟨ds, hv, hb⟩ := FunD.binds1 (ps := ps) F n dvs.length hd (by omega) h
  rw [List.drop_length] at hv
  cases hv
  exact hb
theorem kbn_of (F : FunD K x qual params body scope dvs kws f fd) {n : Nat} {ks : List Str} {g : List Value → List Value → List Value} {gV : List V → List V → List V} (hd : dvs ≠ [])
    (h : ∀ (T : Addr) (kV doc pm : Value) (an : Option Addr) (cdv ct : Value) (us ws its : List Value), us.length = n → ws.length = ks.length → its.length = dvs.length → ∃ k, bindArgs (PySem.W.fnOf x qual params body scope (.ref T) kV doc pm an cdv ct) ⟨us, ks.zip ws⟩ = seqItems? (.ref T) >>= k ∧ k (some its.toArray) = pure (ps.zip (g us ws)))
    (hrel : ∀ {vs : List V} {us : List Value} {zs : List V} {ws : List Value}, Vals vs us → Vals zs ws → Vals (gV vs zs) (g us ws)) : L2.KBn K fd ps n ks g gV := by
  obtain ⟨_, _, dV, kV, doc, pm, an, cdv, ct, _, rfl, _, _, hD, _⟩ := F.ex
  refine ⟨fun s us ws X l1 l2 => ?_, hrel⟩
  rcases hD with ⟨e, _⟩ | ⟨_, T, o, its, m, rfl, lT, oT, rT⟩
  · exact absurd e hd
  · obtain ⟨k, e1, e2⟩ := h T kV doc pm an cdv ct us ws its l1 l2 rT.length.symm
    refine L2.BindsTo.of_looks fun M => ?_
    rw [e1]
    exact L2.looks_items X lT oT (.of_pure e2)
end
def tCallNS (n m : Nat) (sp : Sp) (gV : List V → List V → List V) (E : L2.St → XK) (t tk : TA) : TE := fun σ H Q => t σ H fun vs H1 => tk σ H1 fun zs H2 => vs.length = n ∧ zs.length = m ∧ sp (gV vs zs) H2 Q (E σ)
def tCallN0 (m : Nat) (sp : Sp) (gV : List V → List V → List V) (E : XK) (tk : TA) : TE := fun σ H Q => tk σ H fun zs H2 => zs.length = m ∧ sp (gV [] zs) H2 Q E
section
variable {X : Cx} {CX : CXT} {k n : Nat} {f : Addr} {fd : FuncData} {ps ks : List Str} {sp : Sp} {x : Str} {p pos : Pos} {e : Expr} {es : List Expr} {kws : List Keyword} {t tk : TA} {g : List Value → List Value → List Value} {gV : List V → List V → List V}
end
end Fm
namespace Fm
open PySem PySem.Spec PyProof.Rows L2
theorem w_callN {n m : Nat} {sp : Sp} {gV : List V → List V → List V} {E : XK} {t tk : TA} {σ : L2.St} {H : Hp} {Q : VK} (h : t σ H fun vs H1 => tk σ H1 fun zs H2 => vs.length = n ∧ zs.length = m ∧ sp (gV vs zs) H2 Q E) : tCallN n m sp gV E t tk σ H Q := h
theorem w_callN0 {m : Nat} {sp : Sp} {gV : List V → List V → List V} {E : XK} {tk : TA} {σ : L2.St} {H : Hp} {Q : VK} (h : tk σ H fun zs H2 => zs.length = m ∧ sp (gV [] zs) H2 Q E) : tCallN0 m sp gV E tk σ H Q := h
end Fm

namespace Fm
open PySem PySem.Spec PyProof.Rows L2 PySem.Fm6
/-! ### a hook that also tells the __init__ of classes -/
def asY (g : Addr → Option Obj) : List Addr := He.asD g 4 ++ [cStatics]
abbrev IW : Type := Option (Str × Str × Arguments × FuncBody × Scope × Addr × List Str × Addr)
def iw (K : PySem.W.Frag) (C : Addr) : IW := match K.lookup (He.ma K C "__init__") with
  | some ⟨_, _, .func fd, _⟩ => some (fd.name, fd.qualname, fd.params, fd.body, fd.scope, fd.globals, fd.closure.map (·.1), fd.builtins)
  | _ => none
abbrev AlY : Type := He.AlX × List IW
section
variable {fa : List He.Fa} {fn : List He.DefD} {ts : List He.Tab} {tf : List He.Defn} {ex : PySem.W.Frag → Bool} {cs : List Str} {vs : List IW} {w : World} {h : Heap}
theorem saysX_as {as : List Addr} (e1 : He.obsT fa fn ts (He.frT h.get? as) = He.valT fn ts w) (e2 : (ex (He.frT h.get? as) && He.tabsB h.get? tf (He.frT h.get? as)) = true) : He.SaysX fa fn ts tf ex w h (He.frT h.get? as) := by
  obtain ⟨h1, h2⟩ := He.ba e2
  have key : ∀ p ∈ tf, PySem.W.codeHdIn (He.frT h.get? as) (He.cT (He.frT h.get? as) p).1 (He.cT (He.frT h.get? as) p).2 = true ∧ ∃ o, h.get? (He.cT (He.frT h.get? as) p).2 = some o ∧ He.emptyTab o = true := fun p hp => by
    have hp2 := List.all_eq_true.mp h2 p hp
    obtain ⟨k1, k2⟩ := He.ba hp2
    refine ⟨k1, ?_⟩
    match q : h.get? (He.cT (He.frT h.get? as) p).2, k2 with
    | some o, k2 => exact ⟨o, rfl, k2⟩
    | none, k2 => cases k2
  refine ⟨e1, h1, fun p hp => (key p hp).1, fun p hp => ?_, fun p hp => ?_⟩
  · obtain ⟨_, o, q, z⟩ := key p hp
    exact He.frT_none q z
  · obtain ⟨_, o, q, z⟩ := key p hp
    rw [q, He.emptyTab_eq z]
def obsY (fa : List He.Fa) (fn : List He.DefD) (ts : List He.Tab) (tf : List He.Defn) (ex : PySem.W.Frag → Bool) (cs : List Str) (g : Addr → Option Obj) : AlY :=
  ((He.obsT fa fn ts (He.frT g (asY g)), ex (He.frT g (asY g)) && He.tabsB g tf (He.frT g (asY g))), cs.map fun c => iw (He.frT g (asY g)) (He.ga (He.frT g (asY g)) c))
structure SaysY (fa : List He.Fa) (fn : List He.DefD) (ts : List He.Tab) (tf : List He.Defn) (ex : PySem.W.Frag → Bool) (cs : List Str) (vs : List IW) (w : World) (h : Heap) (K : PySem.W.Frag) : Prop where
  x : He.SaysX fa fn ts tf ex w h K
  i : (cs.map fun c => iw K (He.ga K c)) = vs
def hookY (fa : List He.Fa) (fn : List He.DefD) (ts : List He.Tab) (tf : List He.Defn) (ex : PySem.W.Frag → Bool) (cs : List Str) (vs : List IW) : PySem.W.Hook where
  α := AlY
  obs := fun s => obsY fa fn ts tf ex cs s.heap.get?
  val := fun w => (He.valX fn ts w, vs)
  says := fun w h => ∃ K : PySem.W.Frag, K.In h ∧ SaysY fa fn ts tf ex cs vs w h K
  of := fun _ _ e => ⟨_, He.frT_in, saysX_as (congrArg (fun z : AlY => z.1.1) e) (congrArg (fun z : AlY => z.1.2) e), congrArg (fun z : AlY => z.2) e⟩
  keeps := fun _ _ _ ⟨K, hK, c⟩ k => ⟨K, PySem.W.Frag.In.keeps hK k, ⟨c.x.t, c.x.more, c.x.hd, c.x.out, fun p hp => k _ _ (c.x.empty p hp)⟩, c.i⟩
end
/-! ### what the written part says of a class right over a built-in one -/
def tysB : List Value → List String → Bool
  | [], [] => true
  | .type a :: r, b :: s => decide (a = b) && tysB r s
  | _, _ => false
def clB (K : PySem.W.Frag) (C : Addr) (newId : String) (ns : List String) : Bool := match K.lookup C with
  | some ⟨.type t, _, .cls cd, sl⟩ => decide (t = "type") && (match cd.mro, sl.toList with
    | .ref C' :: bm, [_, _, _, _, some (.builtin n), _] => decide (C' = C) && (decide (n = newId) && (!cd.hasDel && (cd.hasDict && tysB bm ns)))
    | _, _ => false)
  | _ => false
def inB (K : PySem.W.Frag) (C : Addr) (fl : Str) : Bool := match K.lookup (He.ma K C "__init__") with
  | some ⟨_, _, .func fd, _⟩ => (match fd.defaults with
    | .none => true
    | _ => false) && (PySem.W.codeIn K fd.code fd.qualname && ((match fd.code with
    | .ref c => (match K.lookup c with
      | some ⟨_, _, .fields vs, _⟩ => (match vs.toList with
        | _ :: _ :: .str n _ :: _ => fl == n
        | _ => false)
      | _ => false)
    | _ => false) && (match fd.closure with
    | [(_, cc)] => (match K.lookup cc with
      | some ⟨_, _, .cell (some (.ref C')), _⟩ => decide (C' = C)
      | _ => false)
    | _ => false)))
  | _ => false
def ovB (K : PySem.W.Frag) (C : Addr) (fl : Str) (newId : String) (ns : List String) (fld : Str) : Bool :=
  He.eqO (PySem.W.findIn K (.ref C) "__init__") (some (some (.ref (He.ma K C "__init__")))) && (decide (PySem.W.typeIn K (.ref (He.ma K C "__init__")) = some (.type "function")) && (He.eqO (PySem.W.findIn K (.ref C) "__setattr__") (some (some (.builtin "object.__setattr__"))) &&
  (decide (PySem.W.subIn K (.ref C) (.type "BaseException") = some true) && (decide (PySem.W.typeIn K (.ref C) = some (.type "type")) && (PySem.W.keepIn K (.ref C) && (He.eqO (PySem.W.nsIn K cStatics "thirdparty.any") (some none) && (He.eqO (PySem.W.findIn K (.ref C) fld) (some none) &&
  (clB K C newId ns && inB K C fl))))))))
end Fm

namespace Fm
open PySem PySem.Spec PyProof.Rows L2
/-- what isinstance asks of an own class, as the head looks it up -/
def insB (M : PySem.W.Frag) (x : Str) : Bool := He.eqO (PySem.W.findIn M (.ref (He.ga M x)) "__class__") (some (some (.builtin "object.__class__"))) && (He.eqO (PySem.W.specialIn M (.builtin "object.__class__") "__get__") (some (some (.builtin "getset_descriptor.__get__"))) && (decide (PySem.W.takesIn M (.builtin "object.__class__") = some true) && (decide (PySem.W.mroIn M (He.ga M x) (.type "object") = some true) && decide (PySem.W.kitOne M (.ref (He.ga M x)) (.ref (He.ga M x)) = some true))))
theorem insB_ok {K : PySem.W.Frag} {x : Str} (c : Cls K (He.ga K x)) (h : insB K x = true) : C8.InsC K (He.ga K x) := by
  obtain ⟨h1, h⟩ := He.ba h
  obtain ⟨h2, h⟩ := He.ba h
  obtain ⟨h3, h⟩ := He.ba h
  obtain ⟨h4, h5⟩ := He.ba h
  exact ⟨c, He.eqO_ok h1, He.eqO_ok h2, of_decide_eq_true h3, of_decide_eq_true h4, of_decide_eq_true h5⟩
end Fm

namespace OX
open PySem PySem.Spec PyProof.Rows PySem.SeqAt
section
variable {prog : Program} {w : World} {A : Around} {E : Value → Shared → Prop} {s : Shared} {K : PySem.W.Frag} {x C f : Addr} {b : Value} {ox : Obj} {od : Option Obj}
theorem entry_ne {Q : Fin → Shared → Prop} (hu : A.units < cLine) (X : K.In s.heap) (I : PySem.W.InstAt s.heap x ox C od) (hs : PySem.W.findIn K (.ref C) "__eq__" = some (some (.ref f))) (hf : PySem.W.isFn K (.ref f) = true)
    (h : wpAny (model prog w) A (call (.ref f) [.ref x, b]) (fun v s' => ∃ r, v = .bool r ∧ Q (.done (.ret (.bool (!r)))) s') E s) :
    wpAny (model prog w) A (Builtin.«object.__ne__» ⟨[.ref x, b], []⟩) Q E s := by
  unfold Builtin.«object.__ne__»
  repeat (first
    | with_reducible refine wpAny_cRoomFor hu ?_
    | (refine wpAny_bind (m := callSpecialIfBound? (.ref x) (Str.ofString "__eq__") [b])
        (PySem.W.ifBound_K X I hs hf (wpAny_mono h (fun r s' hr => by
          obtain ⟨b, rfl, hq⟩ := hr
          repeat (first | exact hq | exact wpAny_pure hq | exact wpAny_truthy_bool hq | (refine wpAny_bind (m := truthy (.bool _)) (wpAny_truthy_bool ?_)) | wp_step)) fun _ _ e => e)))
    | wp_step)
theorem call_ne {Q : Value → Shared → Prop} (hu : A.in1.units < cLine) (X : K.In s.heap) (I : PySem.W.InstAt s.heap x ox C od) (hm : PySem.W.mroIn K C (.type "object") = some true) (hs : PySem.W.findIn K (.ref C) "__eq__" = some (some (.ref f))) (hf : PySem.W.isFn K (.ref f) = true)
    (h : wpAny (model prog w) A.in1 (call (.ref f) [.ref x, b]) (fun v s' => ∃ r, v = .bool r ∧ Q (.bool (!r)) s') E s) :
    wpAny (model prog w) A (call (.builtin "object.__ne__") [.ref x, b]) Q E s :=
  wpAny_call (codeAny_call_builtin F.cmp_object.ne.plain F.cmpEntry_ne (PySem.W.check_slot F.cmpKind_ne F.cmpSplit_ne (I.type.andThen (PySem.W.looks_mroIn X hm)) (F.cmpArgs_ne _ _) (entry_ne hu X I hs hf h)))
theorem ifBound_ne {args : List Value} {M : Model} {Q : Option Value → Shared → Prop} (X : K.In s.heap) (I : PySem.W.InstAt s.heap x ox C od) (hs : PySem.W.findIn K (.ref C) "__ne__" = some (some (.builtin "object.__ne__")))
    (h : wpAny M A (call (.builtin "object.__ne__") (.ref x :: args)) (fun v => Q (some v)) E s) : wpAny M A (callSpecialIfBound? (.ref x) "__ne__" args) Q E s := by
  simp only [callSpecialIfBound?, bindSpecialIfBound?]
  refine wpAny_holding (wpAny_bind (wpAny_bind (wpAny_bind (I.type.here ((PySem.W.looks_findIn X hs).here ?_)))))
  refine wpAny_bind (wpAny_askSetting (wpAny_ite ?_))
  have fin : wpAny M A (call (.builtin "object.__ne__") ([.ref x] ++ args) >>= fun v => pure (some v)) Q E s := wpAny_bind (wpAny_mono h (fun v s' h' => wpAny_pure h') fun _ _ h' => h')
  split
  · exact wpAny_bind (wpAny_of_eq (F.cmp_object.ne.bind _) (wpAny_pure (by exact fin)))
  · exact wpAny_tryCatch (wpAny_bind (wpAny_of_eq (F.cmp_object.ne.bind _) (wpAny_pure (by exact fin))))
theorem rc_ne {Q : Value → Shared → Prop} {tb : Value} (hu : A.units < cLine) (hu1 : A.in1.units < cLine) (X : K.In s.heap) (I : PySem.W.InstAt s.heap x ox C od) (hb : PySem.W.Looks (model prog w) s.heap (typeOf b) tb) (hn : PySem.W.notFirst K C tb = true)
    (hm : PySem.W.mroIn K C (.type "object") = some true) (hs : PySem.W.findIn K (.ref C) "__eq__" = some (some (.ref f))) (hf : PySem.W.isFn K (.ref f) = true) (hne : PySem.W.findIn K (.ref C) "__ne__" = some (some (.builtin "object.__ne__")))
    (h : wpAny (model prog w) A.in1 (call (.ref f) [.ref x, b]) (fun v s' => ∃ r, v = .bool r ∧ Q (.bool (!r)) s') E s) : wpAny (model prog w) A (richCompare .NotEq (.ref x) b) Q E s := by
  have one : wpAny (model prog w) A (tryCompare (.ref x) "__ne__" b) (fun r s' => ∃ v, r = some (.bool v) ∧ Q (.bool v) s') E s := by
    unfold tryCompare
    refine wpAny_bind (ifBound_ne X I hne (call_ne hu1 X I hm hs hf (wpAny_mono h (fun v s' hv => ?_) fun _ _ e => e)))
    obtain ⟨r, rfl, hq⟩ := hv
    exact ⟨r, rfl, wpAny_pure ⟨_, rfl, hq⟩⟩
  unfold richCompare
  simp only [oneThing_ref]
  refine wpAny_holding (wpAny_bind (wpAny_cRoomFor hu ?_))
  refine wpAny_bind (I.type.here (wpAny_bind (hb.here ?_)))
  split
  · rename_i q
    have e : PySem.W.subIn K tb (.ref C) = some false := by
      rcases Bool.or_eq_true_iff.mp hn with e | e
      · rw [beq_iff_eq.mp e] at q; simp at q
      · exact beq_iff_eq.mp e
    refine wpAny_bind ((PySem.W.looks_subIn X e).here ?_)
    simp only [Bool.false_eq_true, if_false]
    refine wpAny_bind (wpAny_mono one (fun r s' z => ?_) fun _ _ e => e)
    obtain ⟨v, rfl, hq⟩ := z
    exact wpAny_pure hq
  · refine wpAny_bind (wpAny_pure ?_)
    simp only [Bool.false_eq_true, if_false]
    refine wpAny_bind (wpAny_mono one (fun r s' z => ?_) fun _ _ e => e)
    obtain ⟨v, rfl, hq⟩ := z
    exact wpAny_pure hq
end
end OX
namespace Fm
open PySem PySem.Spec PyProof.Rows L2
/-- an own ==, and no != of one's own -/
structure EqC (K : PySem.W.Frag) (C f : Addr) : Prop where
  eq : PySem.W.findIn K (.ref C) "__eq__" = some (some (.ref f))
  fn : PySem.W.isFn K (.ref f) = true
  ne : PySem.W.findIn K (.ref C) "__ne__" = some (some (.builtin "object.__ne__"))
  mo : PySem.W.mroIn K C (.type "object") = some true
def eqB (M : PySem.W.Frag) (x : Str) : Bool := He.eqO (PySem.W.findIn M (.ref (He.ga M x)) "__eq__") (some (some (.ref (He.ma M (He.ga M x) "__eq__")))) && (PySem.W.isFn M (.ref (He.ma M (He.ga M x) "__eq__")) && (He.eqO (PySem.W.findIn M (.ref (He.ga M x)) "__ne__") (some (some (.builtin "object.__ne__"))) && decide (PySem.W.mroIn M (He.ga M x) (.type "object") = some true)))
theorem eqB_ok {K : PySem.W.Frag} {x : Str} (h : eqB K x = true) : EqC K (He.ga K x) (He.ma K (He.ga K x) "__eq__") := by
  obtain ⟨h1, h⟩ := He.ba h
  obtain ⟨h2, h⟩ := He.ba h
  obtain ⟨h3, h4⟩ := He.ba h
  exact ⟨He.eqO_ok h1, h2, He.eqO_ok h3, of_decide_eq_true h4⟩
/-- x == y, x != y by an own ==: two instances of one class -/
def rEqO (neg : Bool) (C : Addr) (sp : Sp) (E : XK) : R2 := fun x y H Q => ∃ a b dx dy fs gs, x = .ref a ∧ y = .ref b ∧ H a = some (.ins C dx fs) ∧ H b = some (.ins C dy gs) ∧ sp [.ref a, .ref b] H (fun v H' => ∃ r, v = .bl r ∧ Q (.bl (if neg = true then !r else r)) H') E
section
variable {X : Cx} {CX : CXT} {n : Nat} {C f : Addr} {fd : FuncData} {ps : List Str} {sp : Sp} {E : XK}
theorem eqO_call (F : FnOk X.prog X.w X.K X.mg X.base CX n f fd ps sp) (hb : Binds X.K fd ps []) (hx : Passes CX X E) {A : Around} (sb : L2.Sub X n A) {pins : List (Addr × Obj)} {s : Shared} {σ : L2.St} {H : Hp} {a b : Addr} {Q : VK} (I : Inv X pins σ H s) (hsp : sp [.ref a, .ref b] H Q E) :
    wpAny (model X.prog X.w) A (call (.ref f) [.ref a, .ref b]) (fun v s' => ∃ x H', Inv X pins σ H' s' ∧ RelV x v ∧ Q x H') X.xe s := by
  have e0 : Env0 X.prog X.w X.K X.mg X.base A X.stack s H := by
    have e := I.env0
    exact ⟨by rw [sb.fr]; exact e.frames, e.mod, e.bs, e.bsz, e.funs, e.frf, e.hok, e.bare⟩
  have hl := F.len _ _ _ _ hsp
  have r2 : Vals [V.ref a, V.ref b] [Value.ref a, Value.ref b] := .cons rfl (.cons rfl .nil)
  refine wpAny_call (codeAny_mono (F.run A X.stack s H ⟨[.ref a, .ref b], []⟩ [.ref a, .ref b] [.ref a, .ref b] _ E sb.room e0 (by
    have := hb s [.ref a, .ref b] I.kIn (by simpa using hl)
    simpa using this) r2 hsp) fun r s' hq => ?_)
  cases r with
  | error e => exact hx pins σ H s e s' I hq
  | ok fl =>
    cases fl with
    | ret w =>
      obtain ⟨z, H', I', rz, q⟩ := I.after hq
      exact ⟨z, H', I', rz, q⟩
    | next => exact False.elim hq
    | brk => exact False.elim hq
    | cont => exact False.elim hq
theorem op_eqO (c : EqC X.K C f) (F : FnOk X.prog X.w X.K X.mg X.base CX n f fd ps sp) (hb : Binds X.K fd ps []) (hx : Passes CX X E) (hr : Room n X.A) : OpR X (compareOp .Eq) (rEqO false C sp E) := by
  intro pins s σ H x y v u Q I rx ry d
  obtain ⟨a, b, dx, dy, fs, gs, rfl, rfl, ha, hb', hsp⟩ := d
  cases rx
  cases ry
  show wpAny (model X.prog X.w) X.A (richCompare .Eq (.ref a) (.ref b)) (EP X pins σ Q) X.xe s
  obtain ⟨mA, J, _⟩ := ins_get I.hok ha
  obtain ⟨mB, J', _⟩ := ins_get I.hok hb'
  obtain ⟨od, J, _⟩ := J.look
  obtain ⟨od', J', _⟩ := J'.look
  obtain ⟨m, hF⟩ := I.fr
  refine PySem.W.cmp_K (op := .Eq) (tb := .ref C) hr.units0 hF I.ok.mod.kin J J'.type (by simp [PySem.W.notFirst]) c.eq c.fn ?_
  refine wpAny_mono (eqO_call F hb hx ⟨hr, rfl⟩ I hsp) (fun z s' q => ?_) fun _ _ e => e
  obtain ⟨z', H', I', rz, r, ez, q⟩ := q
  subst ez
  cases rz
  exact ⟨.bl r, H', I', rfl, q⟩
theorem op_neO (c : EqC X.K C f) (F : FnOk X.prog X.w X.K X.mg X.base CX n f fd ps sp) (hb : Binds X.K fd ps []) (hx : Passes CX X E) (hr : Room (n + 1) X.A) : OpR X (compareOp .NotEq) (rEqO true C sp E) := by
  intro pins s σ H x y v u Q I rx ry d
  obtain ⟨a, b, dx, dy, fs, gs, rfl, rfl, ha, hb', hsp⟩ := d
  cases rx
  cases ry
  show wpAny (model X.prog X.w) X.A (richCompare .NotEq (.ref a) (.ref b)) (EP X pins σ Q) X.xe s
  obtain ⟨mA, J, _⟩ := ins_get I.hok ha
  obtain ⟨mB, J', _⟩ := ins_get I.hok hb'
  obtain ⟨od, J, _⟩ := J.look
  obtain ⟨od', J', _⟩ := J'.look
  have sb : L2.Sub X n X.A.in1 := L2.Sub.in1 ⟨hr, rfl⟩
  refine OX.rc_ne (tb := .ref C) hr.units0 sb.room.units0 I.kIn J J'.type (by simp [PySem.W.notFirst]) c.mo c.eq c.fn c.ne ?_
  refine wpAny_mono (eqO_call F hb hx sb I hsp) (fun z s' q => ?_) fun _ _ e => e
  obtain ⟨z', H', I', rz, r, ez, q⟩ := q
  subst ez
  cases rz
  exact ⟨r, rfl, .bl (!r), H', I', rfl, q⟩
end
end Fm

namespace Fm
open PySem PySem.Spec PyProof.Rows L2
/-- an own __len__ -/
structure LenC (K : PySem.W.Frag) (C f : Addr) : Prop where
  len : PySem.W.findIn K (.ref C) "__len__" = some (some (.ref f))
  fn : PySem.W.isFn K (.ref f) = true
def lenB (M : PySem.W.Frag) (x : Str) : Bool := He.eqO (PySem.W.findIn M (.ref (He.ga M x)) "__len__") (some (some (.ref (He.ma M (He.ga M x) "__len__")))) && PySem.W.isFn M (.ref (He.ma M (He.ga M x) "__len__"))
theorem lenB_ok {K : PySem.W.Frag} {x : Str} (h : lenB K x = true) : LenC K (He.ga K x) (He.ma K (He.ga K x) "__len__") := by
  obtain ⟨h1, h2⟩ := He.ba h
  exact ⟨He.eqO_ok h1, h2⟩
/-- len(x) by an own __len__ -/
def rLenO (C : Addr) (sp : Sp) (E : XK) : List V → Hp → VK → Prop := fun xs H Q => ∃ a dx fs, xs = [V.ref a] ∧ H a = some (.ins C dx fs) ∧ sp [.ref a] H (fun v H' => ∃ i, v = .int i ∧ 0 ≤ i ∧ i < 2 ^ 62 ∧ Q v H') E
section
variable {X : Cx} {CX : CXT} {n : Nat} {C f : Addr} {fd : FuncData} {ps : List Str} {sp : Sp} {E : XK}
theorem lenO_call (F : FnOk X.prog X.w X.K X.mg X.base CX n f fd ps sp) (hb : Binds X.K fd ps []) (hx : Passes CX X E) {A : Around} (sb : L2.Sub X n A) {pins : List (Addr × Obj)} {s : Shared} {σ : L2.St} {H : Hp} {a : Addr} {Q : VK} (I : Inv X pins σ H s) (hsp : sp [.ref a] H Q E) :
    wpAny (model X.prog X.w) A (call (.ref f) [.ref a]) (fun v s' => ∃ x H', Inv X pins σ H' s' ∧ RelV x v ∧ Q x H') X.xe s := by
  have e0 : Env0 X.prog X.w X.K X.mg X.base A X.stack s H := by
    have e := I.env0
    exact ⟨by rw [sb.fr]; exact e.frames, e.mod, e.bs, e.bsz, e.funs, e.frf, e.hok, e.bare⟩
  have hl := F.len _ _ _ _ hsp
  have r2 : Vals [V.ref a] [Value.ref a] := .cons rfl .nil
  refine wpAny_call (codeAny_mono (F.run A X.stack s H ⟨[.ref a], []⟩ [.ref a] [.ref a] _ E sb.room e0 (by
    have := hb s [.ref a] I.kIn (by simpa using hl)
    simpa using this) r2 hsp) fun r s' hq => ?_)
  cases r with
  | error e => exact hx pins σ H s e s' I hq
  | ok fl =>
    cases fl with
    | ret w =>
      obtain ⟨z, H', I', rz, q⟩ := I.after hq
      exact ⟨z, H', I', rz, q⟩
    | next => exact False.elim hq
    | brk => exact False.elim hq
    | cont => exact False.elim hq
theorem call_lenO (c : LenC X.K C f) (F : FnOk X.prog X.w X.K X.mg X.base CX n f fd ps sp) (hb : Binds X.K fd ps []) (hx : Passes CX X E) (hr : Room (n + 1) X.A) : CallR X (.builtin "len") (rLenO C sp E) := by
  intro pins s σ H xs us Q I r h
  obtain ⟨a, dx, fs, rfl, ha, q⟩ := h
  obtain ⟨u, rfl, ru⟩ := r.one
  cases (show u = Value.ref a from ru)
  obtain ⟨mA, J, _⟩ := ins_get I.hok ha
  obtain ⟨od, J, _⟩ := J.look
  obtain ⟨m, hF⟩ := I.fr
  refine PySem.W.len_K hF I.ok.mod.kin J c.len c.fn ?_
  have sb : L2.Sub X (n + 1) X.A := ⟨hr, rfl⟩
  refine wpAny_mono (lenO_call F hb hx sb.in1 I q) (fun z s' q => ?_) fun _ _ e => e
  obtain ⟨z', H', I', rz, i, ei, h0, h1, q⟩ := q
  subst ei
  obtain ⟨t, rfl⟩ := (show ∃ t, z = Value.int i t from rz)
  exact ⟨⟨h0, Int.lt_trans h1 (by decide)⟩, .int i, H', I'.tok _, ⟨_, rfl⟩, q⟩
end
end Fm

namespace Fm
open PySem PySem.Spec PyProof.Rows L2 PySem.Fm6
/-! ### a hook that looks at named objects alone -/
section
variable {as : (Addr → Option Obj) → List Addr} {fa : List He.Fa} {fn : List He.DefD} {ts : List He.Tab} {tf : List He.Defn} {ex : PySem.W.Frag → Bool} {w : World} {h : Heap}
def obsZ (as : (Addr → Option Obj) → List Addr) (fa : List He.Fa) (fn : List He.DefD) (ts : List He.Tab) (tf : List He.Defn) (ex : PySem.W.Frag → Bool) (g : Addr → Option Obj) : He.AlX :=
  (He.obsT fa fn ts (He.frT g (as g)), ex (He.frT g (as g)) && He.tabsB g tf (He.frT g (as g)))
def hookZ (as : (Addr → Option Obj) → List Addr) (fa : List He.Fa) (fn : List He.DefD) (ts : List He.Tab) (tf : List He.Defn) (ex : PySem.W.Frag → Bool) : PySem.W.Hook where
  α := He.AlX
  obs := fun s => obsZ as fa fn ts tf ex s.heap.get?
  val := fun w => He.valX fn ts w
  says := fun w h => ∃ K : PySem.W.Frag, K.In h ∧ He.SaysX fa fn ts tf ex w h K
  of := fun _ _ e => ⟨_, He.frT_in, saysX_as (congrArg (fun z : He.AlX => z.1) e) (congrArg (fun z : He.AlX => z.2) e)⟩
  keeps := fun _ _ _ ⟨K, hK, c⟩ k => ⟨K, PySem.W.Frag.In.keeps hK k, ⟨c.t, c.more, c.hd, c.out, fun p hp => k _ _ (c.empty p hp)⟩⟩
theorem obsZ_eq {g : Addr → Option Obj} {s : Shared} (e : ∀ a, g a = s.heap.get? a) : obsZ as fa fn ts tf ex g = (hookZ as fa fn ts tf ex).obs s := by
  rw [funext e]
  rfl
end
theorem map_two {α β γ : Type} {o : Option α} {f : α → β} {g : α → γ} {b : β} {c : γ} (h1 : o.map f = some b) (h2 : o.map g = some c) : (o.map fun s => (f s, g s)) = some (b, c) := by
  cases o with
  | none => cases h1
  | some s => exact congrArg some (Prod.ext (Option.some.inj h1) (Option.some.inj h2))
end Fm

namespace Fm
open PySem PySem.Spec PyProof.Rows L2
def strB (M : PySem.W.Frag) (x : Str) : Bool := He.eqO (PySem.W.findIn M (.ref (He.ga M x)) "__str__") (some (some (.ref (He.ma M (He.ga M x) "__str__")))) && PySem.W.isFn M (.ref (He.ma M (He.ga M x) "__str__"))
def kitFB (M : PySem.W.Frag) : Bool := decide (PySem.W.kitOne M (.type "NoneType") (.ref (He.ga M "Form")) = some false) && (decide (PySem.W.kitOne M (.type "tuple") (.ref (He.ga M "Form")) = some false) && (decide (PySem.W.kitOne M (.type "int") (.ref (He.ga M "Form")) = some false) && (decide (PySem.W.kitOne M (.type "str") (.ref (He.ga M "Form")) = some false) && decide (PySem.W.kitOne M (.ref (He.ga M "Line")) (.ref (He.ga M "Form")) = some false))))
/-- no own __bool__ -/
def nbB (M : PySem.W.Frag) (x : Str) : Bool := He.eqO (PySem.W.findIn M (.ref (He.ga M x)) "__bool__") (some none)
def reprB (M : PySem.W.Frag) (x : Str) : Bool := He.eqO (PySem.W.findIn M (.ref (He.ga M x)) "__repr__") (some (some (.ref (He.ma M (He.ga M x) "__repr__")))) && PySem.W.isFn M (.ref (He.ma M (He.ga M x) "__repr__"))
end Fm

namespace Fm
open PySem PySem.Spec PyProof.Rows L2 PySem.Fm6
/-- a class over ValueError, own classes between -/
def clV (K : PySem.W.Frag) (C : Addr) : Bool := match K.lookup C with
  | some ⟨.type t, _, .cls cd, sl⟩ => decide (t = "type") && (match cd.mro, sl.toList with
    | .ref C' :: bm, [_, _, _, _, some (.builtin n), _] => decide (C' = C) && (decide (n = "ValueError.__new__") && (!cd.hasDel && (cd.hasDict && (PySem.HandSPX.refsVE bm && He.eqO (PySem.W.alongIn K "__init__" bm) (some (some (.builtin "ValueError.__init__")))))))
    | _, _ => false)
  | _ => false
/-- what the written part must say -/
def onB (K : PySem.W.Frag) (C : Addr) (fl : Str) (f1 f2 : Str) : Bool :=
  He.eqO (PySem.W.findIn K (.ref C) "__init__") (some (some (.ref (He.ma K C "__init__")))) && (decide (PySem.W.typeIn K (.ref (He.ma K C "__init__")) = some (.type "function")) && (He.eqO (PySem.W.findIn K (.ref C) "__setattr__") (some (some (.builtin "object.__setattr__"))) &&
  (decide (PySem.W.subIn K (.ref C) (.type "BaseException") = some true) && (decide (PySem.W.typeIn K (.ref C) = some (.type "type")) && (PySem.W.keepIn K (.ref C) && (He.eqO (PySem.W.nsIn K cStatics "thirdparty.any") (some none) && (He.eqO (PySem.W.findIn K (.ref C) f1) (some none) && (He.eqO (PySem.W.findIn K (.ref C) f2) (some none) &&
  (clV K C && inB K C fl)))))))))
def kitKB (M : PySem.W.Frag) : Bool := decide (PySem.W.kitOne M (.type "NoneType") (.ref (He.ga M "Form")) = some false) && (decide (PySem.W.kitOne M (.type "tuple") (.ref (He.ga M "Form")) = some false) && (decide (PySem.W.kitOne M (.type "int") (.ref (He.ga M "Form")) = some false) && (decide (PySem.W.kitOne M (.type "str") (.ref (He.ga M "Form")) = some false) && (decide (PySem.W.kitOne M (.ref (He.ga M "Keeper")) (.ref (He.ga M "Form")) = some false) && (decide (PySem.W.kitOne M (.type "NoneType") (.ref (He.ga M "Keeper")) = some false) && (decide (PySem.W.kitOne M (.type "tuple") (.ref (He.ga M "Keeper")) = some false) && (decide (PySem.W.kitOne M (.type "int") (.ref (He.ga M "Keeper")) = some false) && (decide (PySem.W.kitOne M (.type "str") (.ref (He.ga M "Keeper")) = some false) && (decide (PySem.W.kitOne M (.ref (He.ga M "Form")) (.ref (He.ga M "Keeper")) = some false) && (decide (PySem.W.notFirst M (He.ga M "Keeper") (.type "NoneType") = true) && (decide (PySem.W.notFirst M (He.ga M "Keeper") (.type "tuple") = true) && (decide (PySem.W.notFirst M (He.ga M "Keeper") (.type "int") = true) && (decide (PySem.W.notFirst M (He.ga M "Keeper") (.type "str") = true) && (decide (PySem.W.notFirst M (He.ga M "Keeper") (.ref (He.ga M "Form")) = true)))))))))))))))
/-- isinstance of Form and of Keeper, with both answers -/
structure KitK (K : PySem.W.Frag) : Prop where
  iF : C8.InsC K (He.ga K "Form")
  iK : C8.InsC K (He.ga K "Keeper")
  fnon : PySem.W.kitOne K (.type "NoneType") (.ref (He.ga K "Form")) = some false
  ftup : PySem.W.kitOne K (.type "tuple") (.ref (He.ga K "Form")) = some false
  fint : PySem.W.kitOne K (.type "int") (.ref (He.ga K "Form")) = some false
  fstr : PySem.W.kitOne K (.type "str") (.ref (He.ga K "Form")) = some false
  fkp : PySem.W.kitOne K (.ref (He.ga K "Keeper")) (.ref (He.ga K "Form")) = some false
  knon : PySem.W.kitOne K (.type "NoneType") (.ref (He.ga K "Keeper")) = some false
  ktup : PySem.W.kitOne K (.type "tuple") (.ref (He.ga K "Keeper")) = some false
  kint : PySem.W.kitOne K (.type "int") (.ref (He.ga K "Keeper")) = some false
  kstr : PySem.W.kitOne K (.type "str") (.ref (He.ga K "Keeper")) = some false
  kfm : PySem.W.kitOne K (.ref (He.ga K "Form")) (.ref (He.ga K "Keeper")) = some false
  nnon : PySem.W.notFirst K (He.ga K "Keeper") (.type "NoneType") = true
  ntup : PySem.W.notFirst K (He.ga K "Keeper") (.type "tuple") = true
  nint : PySem.W.notFirst K (He.ga K "Keeper") (.type "int") = true
  nstr : PySem.W.notFirst K (He.ga K "Keeper") (.type "str") = true
  nfm : PySem.W.notFirst K (He.ga K "Keeper") (.ref (He.ga K "Form")) = true
/-! ### hookZ that also tells the __init__ of classes -/
section
variable {as : (Addr → Option Obj) → List Addr} {fa : List He.Fa} {fn : List He.DefD} {ts : List He.Tab} {tf : List He.Defn} {ex : PySem.W.Frag → Bool} {cs : List Str} {vs : List IW} {w : World} {h : Heap}
def obsV (as : (Addr → Option Obj) → List Addr) (fa : List He.Fa) (fn : List He.DefD) (ts : List He.Tab) (tf : List He.Defn) (ex : PySem.W.Frag → Bool) (cs : List Str) (g : Addr → Option Obj) : AlY :=
  (obsZ as fa fn ts tf ex g, cs.map fun c => iw (He.frT g (as g)) (He.ga (He.frT g (as g)) c))
def hookV (as : (Addr → Option Obj) → List Addr) (fa : List He.Fa) (fn : List He.DefD) (ts : List He.Tab) (tf : List He.Defn) (ex : PySem.W.Frag → Bool) (cs : List Str) (vs : List IW) : PySem.W.Hook where
  α := AlY
  obs := fun s => obsV as fa fn ts tf ex cs s.heap.get?
  val := fun w => (He.valX fn ts w, vs)
  says := fun w h => ∃ K : PySem.W.Frag, K.In h ∧ SaysY fa fn ts tf ex cs vs w h K
  of := fun _ _ e => ⟨_, He.frT_in, saysX_as (congrArg (fun z : AlY => z.1.1) e) (congrArg (fun z : AlY => z.1.2) e), congrArg (fun z : AlY => z.2) e⟩
  keeps := fun _ _ _ ⟨K, hK, c⟩ k => ⟨K, PySem.W.Frag.In.keeps hK k, ⟨c.x.t, c.x.more, c.x.hd, c.x.out, fun p hp => k _ _ (c.x.empty p hp)⟩, c.i⟩
end
end Fm

namespace Fm
open PySem PySem.Spec PyProof.Rows L2
def topS (i : Nat) : Stmt := PySem.Challenge.pw_fewmirrors_k57_forms_read.main.body.getD i (.Pass ⟨0, 0, 0, 0⟩)
def clsB0 : Stmt → List Stmt
  | .ClassDef (body := b) .. => b
  | _ => []
def d_is_whole : He.DefD := ⟨("is_whole", none), "is_whole", "is_whole", defArgs (topS 7), defBody (topS 7), defScope (topS 7), [], []⟩
def d_common_divisor : He.DefD := ⟨("common_divisor", none), "common_divisor", "common_divisor", defArgs (topS 8), defBody (topS 8), defScope (topS 8), [], []⟩
def d_is_ground : He.DefD := ⟨("is_ground", none), "is_ground", "is_ground", defArgs (topS 11), defBody (topS 11), defScope (topS 11), [], []⟩
def d_is_number : He.DefD := ⟨("is_number", none), "is_number", "is_number", defArgs (topS 12), defBody (topS 12), defScope (topS 12), [], []⟩
def d_lowest : He.DefD := ⟨("lowest", none), "lowest", "lowest", defArgs (topS 13), defBody (topS 13), defScope (topS 13), [], []⟩
def d_wheel_back : He.DefD := ⟨("wheel_back", none), "wheel_back", "wheel_back", defArgs (topS 14), defBody (topS 14), defScope (topS 14), [], []⟩
def d_show_number : He.DefD := ⟨("show_number", none), "show_number", "show_number", defArgs (topS 15), defBody (topS 15), defScope (topS 15), [], []⟩
def d_is_row : He.DefD := ⟨("is_row", none), "is_row", "is_row", defArgs (topS 17), defBody (topS 17), defScope (topS 17), [], []⟩
def d_is_table : He.DefD := ⟨("is_table", none), "is_table", "is_table", defArgs (topS 18), defBody (topS 18), defScope (topS 18), [], []⟩
def d_whole_row : He.DefD := ⟨("whole_row", none), "whole_row", "whole_row", defArgs (topS 19), defBody (topS 19), defScope (topS 19), [], []⟩
def d_turned : He.DefD := ⟨("turned", none), "turned", "turned", defArgs (topS 20), defBody (topS 20), defScope (topS 20), [], []⟩
def d_determinant : He.DefD := ⟨("determinant", none), "determinant", "determinant", defArgs (topS 21), defBody (topS 21), defScope (topS 21), [], []⟩
def d_whole_determinant : He.DefD := ⟨("whole_determinant", none), "whole_determinant", "whole_determinant", defArgs (topS 22), defBody (topS 22), defScope (topS 22), [], []⟩
def d_smaller_row : He.DefD := ⟨("smaller_row", none), "smaller_row", "smaller_row", defArgs (topS 23), defBody (topS 23), defScope (topS 23), [], []⟩
def d_head_place : He.DefD := ⟨("head_place", none), "head_place", "head_place", defArgs (topS 24), defBody (topS 24), defScope (topS 24), [], []⟩
def d_show_row : He.DefD := ⟨("show_row", none), "show_row", "show_row", defArgs (topS 25), defBody (topS 25), defScope (topS 25), [], []⟩
def d_show_table : He.DefD := ⟨("show_table", none), "show_table", "show_table", defArgs (topS 26), defBody (topS 26), defScope (topS 26), [], []⟩
def d_is_form_table : He.DefD := ⟨("is_form_table", none), "is_form_table", "is_form_table", defArgs (topS 31), defBody (topS 31), defScope (topS 31), [], []⟩
def d_read_form : He.DefD := ⟨("read_form", none), "read_form", "read_form", defArgs (topS 35), defBody (topS 35), defScope (topS 35), [], []⟩
def d_form_or_none : He.DefD := ⟨("form_or_none", none), "form_or_none", "form_or_none", defArgs (topS 36), defBody (topS 36), defScope (topS 36), [], []⟩
def d_table_parts : He.DefD := ⟨("table_parts", none), "table_parts", "table_parts", defArgs (topS 37), defBody (topS 37), defScope (topS 37), [], []⟩
def d_row_parts : He.DefD := ⟨("row_parts", none), "row_parts", "row_parts", defArgs (topS 38), defBody (topS 38), defScope (topS 38), [], []⟩
def d_number_part : He.DefD := ⟨("number_part", none), "number_part", "number_part", defArgs (topS 39), defBody (topS 39), defScope (topS 39), [], []⟩
def d_are_figures : He.DefD := ⟨("are_figures", none), "are_figures", "are_figures", defArgs (topS 40), defBody (topS 40), defScope (topS 40), [], []⟩
def d__law_bag : He.DefD := ⟨("_law_bag", none), "_law_bag", "_law_bag", defArgs (topS 42), defBody (topS 42), defScope (topS 42), [], []⟩
def d__law_take : He.DefD := ⟨("_law_take", none), "_law_take", "_law_take", defArgs (topS 43), defBody (topS 43), defScope (topS 43), [], []⟩
def d__law_shared : He.DefD := ⟨("_law_shared", none), "_law_shared", "_law_shared", defArgs (topS 44), defBody (topS 44), defScope (topS 44), [], []⟩
def d__law_low : He.DefD := ⟨("_law_low", none), "_law_low", "_law_low", defArgs (topS 45), defBody (topS 45), defScope (topS 45), [], []⟩
def d__law_plus : He.DefD := ⟨("_law_plus", none), "_law_plus", "_law_plus", defArgs (topS 46), defBody (topS 46), defScope (topS 46), [], []⟩
def d__law_times : He.DefD := ⟨("_law_times", none), "_law_times", "_law_times", defArgs (topS 47), defBody (topS 47), defScope (topS 47), [], []⟩
def d__law_minus : He.DefD := ⟨("_law_minus", none), "_law_minus", "_law_minus", defArgs (topS 48), defBody (topS 48), defScope (topS 48), [], []⟩
def d__law_scaled : He.DefD := ⟨("_law_scaled", none), "_law_scaled", "_law_scaled", defArgs (topS 49), defBody (topS 49), defScope (topS 49), [], []⟩
def d__law_added : He.DefD := ⟨("_law_added", none), "_law_added", "_law_added", defArgs (topS 50), defBody (topS 50), defScope (topS 50), [], []⟩
def d__law_through : He.DefD := ⟨("_law_through", none), "_law_through", "_law_through", defArgs (topS 51), defBody (topS 51), defScope (topS 51), [], []⟩
def d__law_product : He.DefD := ⟨("_law_product", none), "_law_product", "_law_product", defArgs (topS 52), defBody (topS 52), defScope (topS 52), [], []⟩
def d__law_turned : He.DefD := ⟨("_law_turned", none), "_law_turned", "_law_turned", defArgs (topS 53), defBody (topS 53), defScope (topS 53), [], []⟩
def d__law_ones : He.DefD := ⟨("_law_ones", none), "_law_ones", "_law_ones", defArgs (topS 54), defBody (topS 54), defScope (topS 54), [], []⟩
def d__law_ground : He.DefD := ⟨("_law_ground", none), "_law_ground", "_law_ground", defArgs (topS 55), defBody (topS 55), defScope (topS 55), [], []⟩
def d__law_number : He.DefD := ⟨("_law_number", none), "_law_number", "_law_number", defArgs (topS 56), defBody (topS 56), defScope (topS 56), [], []⟩
def d__law_other_than_nought : He.DefD := ⟨("_law_other_than_nought", none), "_law_other_than_nought", "_law_other_than_nought", defArgs (topS 57), defBody (topS 57), defScope (topS 57), [], []⟩
def d__law_letters : He.DefD := ⟨("_law_letters", none), "_law_letters", "_law_letters", defArgs (topS 58), defBody (topS 58), defScope (topS 58), [], []⟩
def d__law_changed : He.DefD := ⟨("_law_changed", none), "_law_changed", "_law_changed", defArgs (topS 59), defBody (topS 59), defScope (topS 59), [], []⟩
def d__law_form : He.DefD := ⟨("_law_form", none), "_law_form", "_law_form", defArgs (topS 60), defBody (topS 60), defScope (topS 60), [], []⟩
def d__law_number_text : He.DefD := ⟨("_law_number_text", none), "_law_number_text", "_law_number_text", defArgs (topS 61), defBody (topS 61), defScope (topS 61), [], []⟩
def d__law_row_text : He.DefD := ⟨("_law_row_text", none), "_law_row_text", "_law_row_text", defArgs (topS 62), defBody (topS 62), defScope (topS 62), [], []⟩
def d__law_table_text : He.DefD := ⟨("_law_table_text", none), "_law_table_text", "_law_table_text", defArgs (topS 63), defBody (topS 63), defScope (topS 63), [], []⟩
def d__law_form_text : He.DefD := ⟨("_law_form_text", none), "_law_form_text", "_law_form_text", defArgs (topS 64), defBody (topS 64), defScope (topS 64), [], []⟩
def d__law_wide_form : He.DefD := ⟨("_law_wide_form", none), "_law_wide_form", "_law_wide_form", defArgs (topS 65), defBody (topS 65), defScope (topS 65), [], []⟩
def d__law_is_told : He.DefD := ⟨("_law_is_told", none), "_law_is_told", "_law_is_told", defArgs (topS 66), defBody (topS 66), defScope (topS 66), [], []⟩
def d_law : He.DefD := ⟨("law", none), "law", "law", defArgs (topS 67), defBody (topS 67), defScope (topS 67), [], []⟩
def d_Form___init__ : He.DefD := ⟨("Form", some "__init__"), "__init__", "Form.__init__", defArgs ((clsB0 (topS 30)).getD 0 (.Pass ⟨0, 0, 0, 0⟩)), defBody ((clsB0 (topS 30)).getD 0 (.Pass ⟨0, 0, 0, 0⟩)), defScope ((clsB0 (topS 30)).getD 0 (.Pass ⟨0, 0, 0, 0⟩)), [.int 0], []⟩
def d_Form___eq__ : He.DefD := ⟨("Form", some "__eq__"), "__eq__", "Form.__eq__", defArgs ((clsB0 (topS 30)).getD 1 (.Pass ⟨0, 0, 0, 0⟩)), defBody ((clsB0 (topS 30)).getD 1 (.Pass ⟨0, 0, 0, 0⟩)), defScope ((clsB0 (topS 30)).getD 1 (.Pass ⟨0, 0, 0, 0⟩)), [], []⟩
def d_Form___len__ : He.DefD := ⟨("Form", some "__len__"), "__len__", "Form.__len__", defArgs ((clsB0 (topS 30)).getD 2 (.Pass ⟨0, 0, 0, 0⟩)), defBody ((clsB0 (topS 30)).getD 2 (.Pass ⟨0, 0, 0, 0⟩)), defScope ((clsB0 (topS 30)).getD 2 (.Pass ⟨0, 0, 0, 0⟩)), [], []⟩
def d_Form___str__ : He.DefD := ⟨("Form", some "__str__"), "__str__", "Form.__str__", defArgs ((clsB0 (topS 30)).getD 3 (.Pass ⟨0, 0, 0, 0⟩)), defBody ((clsB0 (topS 30)).getD 3 (.Pass ⟨0, 0, 0, 0⟩)), defScope ((clsB0 (topS 30)).getD 3 (.Pass ⟨0, 0, 0, 0⟩)), [], []⟩
def d_Form___repr__ : He.DefD := ⟨("Form", some "__repr__"), "__repr__", "Form.__repr__", defArgs ((clsB0 (topS 30)).getD 4 (.Pass ⟨0, 0, 0, 0⟩)), defBody ((clsB0 (topS 30)).getD 4 (.Pass ⟨0, 0, 0, 0⟩)), defScope ((clsB0 (topS 30)).getD 4 (.Pass ⟨0, 0, 0, 0⟩)), [], []⟩
def fn : List He.DefD := [d_is_whole, d_common_divisor, d_is_ground, d_is_number, d_lowest, d_wheel_back, d_show_number, d_is_row, d_is_table, d_whole_row, d_turned, d_determinant, d_whole_determinant, d_smaller_row, d_head_place, d_show_row, d_show_table, d_is_form_table, d_read_form, d_form_or_none, d_table_parts, d_row_parts, d_number_part, d_are_figures, d__law_bag, d__law_take, d__law_shared, d__law_low, d__law_plus, d__law_times, d__law_minus, d__law_scaled, d__law_added, d__law_through, d__law_product, d__law_turned, d__law_ones, d__law_ground, d__law_number, d__law_other_than_nought, d__law_letters, d__law_changed, d__law_form, d__law_number_text, d__law_row_text, d__law_table_text, d__law_form_text, d__law_wide_form, d__law_is_told, d_law, d_Form___init__, d_Form___eq__, d_Form___len__, d_Form___str__, d_Form___repr__]
def fa : List He.Fa := [.glo "is_whole", .glo "common_divisor", .glo "is_ground", .glo "is_number", .glo "lowest", .glo "wheel_back", .glo "show_number", .glo "is_row", .glo "is_table", .glo "whole_row", .glo "turned", .glo "determinant", .glo "whole_determinant", .glo "smaller_row", .glo "head_place", .glo "show_row", .glo "show_table", .glo "is_form_table", .glo "read_form", .glo "form_or_none", .glo "table_parts", .glo "row_parts", .glo "number_part", .glo "are_figures", .glo "_law_bag", .glo "_law_take", .glo "_law_shared", .glo "_law_low", .glo "_law_plus", .glo "_law_times", .glo "_law_minus", .glo "_law_scaled", .glo "_law_added", .glo "_law_through", .glo "_law_product", .glo "_law_turned", .glo "_law_ones", .glo "_law_ground", .glo "_law_number", .glo "_law_other_than_nought", .glo "_law_letters", .glo "_law_changed", .glo "_law_form", .glo "_law_number_text", .glo "_law_row_text", .glo "_law_table_text", .glo "_law_form_text", .glo "_law_wide_form", .glo "_law_is_told", .glo "law", .free "isinstance", .free "int", .free "bool", .free "abs", .free "tuple", .free "len", .free "str", .free "all", .free "range", .free "zip", .free "list", .free "repr", .free "max", .free "min", .glo "GROUNDS", .glo "WHEELS", .int "MOST_LETTERS" 5, .int "MOST_LETTERS_ON_A_WHEEL" 4, .int "MOST_FIGURES" 600, .glo "Form", .cls "Form", .mkr "Form", .noat "Form" "table", .noat "Form" "ground"]
def tf : List He.Defn := []
abbrev PP : Program := (PySem.Challenge.rw_fewmirrors_k57_forms_read).prog
def tsW : List He.Tab := [((fun K => He.ga K "WHEELS"), [("3" : Str), ("5" : Str), ("7" : Str), ("11" : Str), ("13" : Str)])]
def exB (M : PySem.W.Frag) : Bool := He.tupB M "GROUNDS" [.int 0, .int 3, .int 5, .int 7, .int 11, .int 13] && insB M "Form" && eqB M "Form" && lenB M "Form" && strB M "Form" && reprB M "Form" && He.valsB M (He.ga M "WHEELS") [("3", He.Dv.int 3), ("5", He.Dv.int 5), ("7", He.Dv.int 7), ("11", He.Dv.int 11), ("13", He.Dv.int 13)]
abbrev R : PySem.W.OpenRow := PySem.W.OpenLaw.row PySem.Challenge.rw_fewmirrors_k57_forms_read
/-- the objects that the facts name: the functions with their code, the classes with their methods -/
def nmF : List PySem.Str := (["is_whole", "common_divisor", "is_ground", "is_number", "lowest", "wheel_back", "show_number", "is_row", "is_table", "whole_row", "turned", "determinant", "whole_determinant", "smaller_row", "head_place", "show_row", "show_table", "is_form_table", "read_form", "form_or_none"] : List PySem.Str) ++ (["table_parts", "row_parts", "number_part", "are_figures", "_law_bag", "_law_take", "_law_shared", "_law_low", "_law_plus", "_law_times", "_law_minus", "_law_scaled", "_law_added", "_law_through", "_law_product", "_law_turned", "_law_ones", "_law_ground", "_law_number", "_law_other_than_nought"] : List PySem.Str) ++ (["_law_letters", "_law_changed", "_law_form", "_law_number_text", "_law_row_text", "_law_table_text", "_law_form_text", "_law_wide_form", "_law_is_told", "law", "GROUNDS", "WHEELS"] : List PySem.Str)
def nmC : List PySem.Str := (["Form"] : List PySem.Str)
def rfs (g : Addr → Option Obj) (as : List Addr) : List Addr := as.flatMap fun a => match g a with
  | some o => He.refsD o
  | none => []
def asN2 (g : Addr → Option Obj) (a c : List Addr) : List Addr := mainGlobals :: (a ++ (rfs g a ++ (c ++ (rfs g c ++ (rfs g (rfs g c) ++ rfs g (rfs g (rfs g c)))))))
def asN (g : Addr → Option Obj) : List Addr := asN2 g (nmF.map (He.ga (He.frG g [mainGlobals]))) (nmC.map (He.ga (He.frG g [mainGlobals])))
def hk : PySem.W.Hook := hookZ asN fa fn tsW tf exB
def ob (s : PySem.W.SharedT) : He.AlX := obsZ asN fa fn tsW tf exB (HandSHeadRun.getT s)
theorem ob_eq (s : PySem.W.SharedT) : ob s = hk.obs s.abs := obsZ_eq (HandSHeadRun.getT_eq s)
def loose : List PySem.Str := (["MirrorError", "NoGround", "NoForm", "NoText", "Form", "GROUNDS", "WHEELS", "MOST_LETTERS", "MOST_LETTERS_ON_A_WHEEL", "MOST_FIGURES", "_wall", "is_whole", "common_divisor", "is_ground", "is_number", "lowest", "wheel_back", "show_number", "is_row", "is_table"] : List PySem.Str) ++ (["whole_row", "turned", "determinant", "whole_determinant", "smaller_row", "head_place", "show_row", "show_table", "is_form_table", "read_form", "form_or_none", "table_parts", "row_parts", "number_part", "are_figures", "_law_bag", "_law_take", "_law_shared", "_law_low", "_law_plus"] : List PySem.Str) ++ (["_law_times", "_law_minus", "_law_scaled", "_law_added", "_law_through", "_law_product", "_law_turned", "_law_ones", "_law_ground", "_law_number", "_law_other_than_nought", "_law_letters", "_law_changed", "_law_form", "_law_number_text", "_law_row_text", "_law_table_text", "_law_form_text", "_law_wide_form", "_law_is_told"] : List PySem.Str)
abbrev wrow : String := "special-get-raises"
abbrev wf (w : World) (b : Bool) : World := w.withFollow wrow b
/-! the run of the top, in three looks (one after another they take less memory) -/
open HandSHeadRun PySem.W in
theorem run1f (w : World) (os : OsState) : ((endF (stepQ (denQ tabQ) R.prog (wf w false)) 9000 R.prog (wf w false) os).map fun s => looksF R.prog (boot_heap (wf w false).params) s.abs) = some true := by
  kernel_rfl
open HandSHeadRun PySem.W in
theorem run1t (w : World) (os : OsState) : ((endF (stepQ (denQ tabQ) R.prog (wf w true)) 9000 R.prog (wf w true) os).map fun s => looksF R.prog (boot_heap (wf w true).params) s.abs) = some true := by
  kernel_rfl
open HandSHeadRun PySem.W in
theorem run1 (w : World) (os : OsState) : ((endF (stepQ (denQ tabQ) R.prog w) 9000 R.prog w os).map fun s => looksF R.prog (boot_heap w.params) s.abs) = some true := by
  have e := World.withFollow_self w wrow
  cases hb : w.params.followText wrow <;> rw [hb] at e
  · have h := run1f w os
    unfold wf at h
    rwa [e] at h
  · have h := run1t w os
    unfold wf at h
    rwa [e] at h
open HandSHeadRun PySem.W in
theorem run2f (w : World) (os : OsState) : ((endF (stepQ (denQ tabQ) R.prog (wf w false)) 9000 R.prog (wf w false) os).map fun s => seenQ (PySem.W.view R.prog [67]) loose (importedModules R.prog.main.body) (fun s => xlAt (PySem.W.view R.prog [67]) [] s && recOk R.toRowW.records s) s.abs) = some (openGood (PySem.W.view R.prog [67]) loose) := by
  kernel_rfl
open HandSHeadRun PySem.W in
theorem run2t (w : World) (os : OsState) : ((endF (stepQ (denQ tabQ) R.prog (wf w true)) 9000 R.prog (wf w true) os).map fun s => seenQ (PySem.W.view R.prog [67]) loose (importedModules R.prog.main.body) (fun s => xlAt (PySem.W.view R.prog [67]) [] s && recOk R.toRowW.records s) s.abs) = some (openGood (PySem.W.view R.prog [67]) loose) := by
  kernel_rfl
open HandSHeadRun PySem.W in
theorem run2 (w : World) (os : OsState) : ((endF (stepQ (denQ tabQ) R.prog w) 9000 R.prog w os).map fun s => seenQ (PySem.W.view R.prog [67]) loose (importedModules R.prog.main.body) (fun s => xlAt (PySem.W.view R.prog [67]) [] s && recOk R.toRowW.records s) s.abs) = some (openGood (PySem.W.view R.prog [67]) loose) := by
  have e := World.withFollow_self w wrow
  cases hb : w.params.followText wrow <;> rw [hb] at e
  · have h := run2f w os
    unfold wf at h
    rwa [e] at h
  · have h := run2t w os
    unfold wf at h
    rwa [e] at h
open HandSHeadRun PySem.W in
theorem run3f (w : World) (os : OsState) : ((endF (stepQ (denQ tabQ) R.prog (wf w false)) 9000 R.prog (wf w false) os).map ob) = some (hk.val (wf w false)) := by
  kernel_rfl
open HandSHeadRun PySem.W in
theorem run3t (w : World) (os : OsState) : ((endF (stepQ (denQ tabQ) R.prog (wf w true)) 9000 R.prog (wf w true) os).map ob) = some (hk.val (wf w true)) := by
  kernel_rfl
open HandSHeadRun PySem.W in
theorem run3 (w : World) (os : OsState) : ((endF (stepQ (denQ tabQ) R.prog w) 9000 R.prog w os).map ob) = some (hk.val w) := by
  have e := World.withFollow_self w wrow
  cases hb : w.params.followText wrow <;> rw [hb] at e
  · have h := run3f w os
    unfold wf at h
    rwa [e] at h
  · have h := run3t w os
    unfold wf at h
    rwa [e] at h
theorem run (w : World) : HandSHeadRun.RunEq R (PySem.W.view R.prog [67]) hk ob 9000 loose w := fun os => map_two (run1 w os) (map_two (run2 w os) (run3 w os))
open HandSHeadRun PySem.W in
theorem e_k1 : R.wellSaid = true := by decide +kernel
open HandSHeadRun PySem.W in
theorem e_ok : (chainsOk (view R.prog [67]) && opensWell R.prog && (frees R.toRowW && R.within.isEmpty)) = true := by decide +kernel
open HandSHeadRun PySem.W in
theorem e_op : opening R.prog = plainProg R.prog.main.scope.names := by kernel_rfl
open HandSHeadRun PySem.W in
theorem e_def : defOf (view R.prog [67]) R.name = some (topDef R.prog 67, []) := by kernel_rfl
open HandSHeadRun PySem.W in
theorem e_the : R.prog.theDef R.name = some ((topDef R.prog 67).params, (topDef R.prog 67).body, (topDef R.prog 67).scope) := by kernel_rfl
open HandSHeadRun PySem.W in
theorem e_kw : kwWritten? (topDef R.prog 67).params.kwonlyargs (topDef R.prog 67).params.kw_defaults = some [] := by kernel_rfl
open HandSHeadRun PySem.W in
theorem e_hb : R.prog.bare := ⟨rfl, rfl, rfl, rfl, rfl, by decide +kernel⟩
open PySem PySem.W PySem.Calls PyProof.Rows in
set_option maxHeartbeats 0 in
theorem e_open (h : PySem.W.OpenRow.Holds (PySem.W.OpenLaw.row PySem.Challenge.rw_fewmirrors_k57_forms_read)) : PySem.Challenge.rw_fewmirrors_k57_forms_read.Holds := by
  w_on; o_law
  exact h
end Fm
namespace Fd
/-! ### sums over a range -/
def S (f : Nat → Int) : Nat → Int
  | 0 => 0
  | n + 1 => S f n + f n
theorem S_congr {f g : Nat → Int} : ∀ {n : Nat}, (∀ i, i < n → f i = g i) → S f n = S g n
  | 0, _ => rfl
  | n + 1, h => by
    show S f n + f n = S g n + g n
    rw [S_congr (n := n) fun i hi => h i (by omega), h n (by omega)]
theorem S_zero : ∀ (n : Nat), S (fun _ => 0) n = 0
  | 0 => rfl
  | n + 1 => by
    show S (fun _ => 0) n + 0 = 0
    rw [S_zero n]
    rfl
theorem S_add (f g : Nat → Int) : ∀ (n : Nat), S (fun i => f i + g i) n = S f n + S g n
  | 0 => rfl
  | n + 1 => by
    show S (fun i => f i + g i) n + (f n + g n) = S f n + f n + (S g n + g n)
    rw [S_add f g n]
    omega
theorem S_mul (c : Int) (f : Nat → Int) : ∀ (n : Nat), S (fun i => c * f i) n = c * S f n
  | 0 => (Int.mul_zero c).symm
  | n + 1 => by
    show S (fun i => c * f i) n + c * f n = c * (S f n + f n)
    rw [S_mul c f n, Int.mul_add]
theorem S_neg (f : Nat → Int) (n : Nat) : S (fun i => -f i) n = -S f n := by
  have h := S_mul (-1) f n
  rw [S_congr (g := fun i => -1 * f i) fun i _ => by omega, h]
  omega
theorem S_comm (f : Nat → Nat → Int) (m : Nat) : ∀ (n : Nat), S (fun i => S (fun j => f i j) m) n = S (fun j => S (fun i => f i j) n) m
  | 0 => (S_zero m).symm
  | n + 1 => by
    show S (fun i => S (fun j => f i j) m) n + S (fun j => f n j) m = S (fun j => S (fun i => f i j) n + f n j) m
    rw [S_comm f m n, ← S_add]
def skip (i j : Nat) : Nat := if j < i then j else j + 1
theorem S_skip (f : Nat → Int) (i : Nat) : ∀ (n : Nat), i ≤ n → S (fun j => f (skip i j)) n = S (fun k => if k = i then 0 else f k) (n + 1)
  | 0, h => by
    have e : i = 0 := by omega
    subst e
    rfl
  | n + 1, h => by
    by_cases hi : i = n + 1
    · subst hi
      show S (fun j => f (skip (n + 1) j)) (n + 1) = S (fun k => if k = n + 1 then 0 else f k) (n + 1) + (if n + 1 = n + 1 then 0 else f (n + 1))
      rw [if_pos rfl, Int.add_zero]
      refine S_congr fun j hj => ?_
      unfold skip
      rw [if_pos hj, if_neg (by omega)]
    · show S (fun j => f (skip i j)) n + f (skip i n) = S (fun k => if k = i then 0 else f k) (n + 1) + (if n + 1 = i then 0 else f (n + 1))
      rw [S_skip f i n (by omega), if_neg (by omega)]
      unfold skip
      rw [if_neg (by omega)]
/-! ### signs -/
def sg (i : Nat) : Int := if i % 2 = 0 then 1 else -1
theorem sg_succ (i : Nat) : sg (i + 1) = -sg i := by
  unfold sg
  split <;> split <;> omega
theorem sg_sq (i : Nat) : sg i * sg i = 1 := by
  unfold sg
  split <;> rfl
/-! ### determinants of some columns of rows of whole numbers -/
def ent (rows : List (List Int)) (i c : Nat) : Int := (rows.getD i []).getD c 0
def dt : List (List Int) → List Nat → Int
  | _, [] => 1
  | rows, c :: cs => S (fun i => sg i * ent rows i c * dt (rows.eraseIdx i) cs) rows.length
theorem ent_erase (rows : List (List Int)) (i j c : Nat) : ent (rows.eraseIdx i) j c = ent rows (skip i j) c := by
  have e : (rows.eraseIdx i).getD j [] = rows.getD (skip i j) [] := by
    rw [List.getD_eq_getElem?_getD, List.getD_eq_getElem?_getD, List.getElem?_eraseIdx]
    unfold skip
    split <;> rfl
  unfold ent
  rw [e]
def er2 (rows : List (List Int)) (i k : Nat) : List (List Int) := (rows.eraseIdx i).eraseIdx (if k < i then k else k - 1)
theorem er2_symm (rows : List (List Int)) {i k : Nat} (h : i ≠ k) : er2 rows i k = er2 rows k i := by
  unfold er2
  refine List.ext_getElem? fun n => ?_
  rcases Nat.lt_or_gt_of_ne h with hk | hk
  · rw [if_neg (by omega), if_pos hk, List.getElem?_eraseIdx, List.getElem?_eraseIdx, List.getElem?_eraseIdx, List.getElem?_eraseIdx, List.getElem?_eraseIdx, List.getElem?_eraseIdx]
    by_cases h1 : n < i
    · rw [if_pos (show n < k - 1 by omega), if_pos h1, if_pos h1, if_pos (show n < k by omega)]
    · by_cases h2 : n < k - 1
      · rw [if_pos h2, if_neg h1, if_neg h1, if_pos (show n + 1 < k by omega)]
      · rw [if_neg h2, if_neg (show ¬ n + 1 < i by omega), if_neg h1, if_neg (show ¬ n + 1 < k by omega)]
  · rw [if_pos hk, if_neg (by omega), List.getElem?_eraseIdx, List.getElem?_eraseIdx, List.getElem?_eraseIdx, List.getElem?_eraseIdx, List.getElem?_eraseIdx, List.getElem?_eraseIdx]
    by_cases h1 : n < k
    · rw [if_pos h1, if_pos (show n < i by omega), if_pos (show n < i - 1 by omega), if_pos h1]
    · by_cases h2 : n < i - 1
      · rw [if_neg h1, if_pos (show n + 1 < i by omega), if_pos h2, if_neg h1]
      · rw [if_neg h1, if_neg (show ¬ n + 1 < i by omega), if_neg h2, if_neg (show ¬ n + 1 < k by omega)]
/-- the sign of taking i and then k -/
def s2 (i k : Nat) : Int := if k < i then sg i * sg k else -(sg i * sg k)
theorem dt_two (rows : List (List Int)) (a b : Nat) (cs : List Nat) : dt rows (a :: b :: cs) = S (fun i => S (fun k => if k = i then 0 else s2 i k * ent rows i a * ent rows k b * dt (er2 rows i k) cs) rows.length) rows.length := by
  show S (fun i => sg i * ent rows i a * S (fun j => sg j * ent (rows.eraseIdx i) j b * dt ((rows.eraseIdx i).eraseIdx j) cs) (rows.eraseIdx i).length) rows.length = _
  refine S_congr fun i hi => ?_
  have hl : rows.length = (rows.eraseIdx i).length + 1 := by rw [List.length_eraseIdx_of_lt hi]; omega
  rw [← S_mul]
  have e := S_skip (fun k => s2 i k * ent rows i a * ent rows k b * dt (er2 rows i k) cs) i (rows.eraseIdx i).length (by omega)
  rw [← hl] at e
  rw [← e]
  refine S_congr fun j hj => ?_
  rw [ent_erase]
  have e1 : s2 i (skip i j) = sg i * sg j := by
    unfold s2 skip
    by_cases h : j < i
    · rw [if_pos h, if_pos h]
    · rw [if_neg h, if_neg (by omega), sg_succ, Int.mul_neg, Int.neg_neg]
  have e2 : er2 rows i (skip i j) = (rows.eraseIdx i).eraseIdx j := by
    unfold er2 skip
    by_cases h : j < i
    · rw [if_pos h, if_pos h]
    · rw [if_neg h, if_neg (by omega)]
      rfl
  rw [e1, e2]
  simp only [Int.mul_assoc, Int.mul_left_comm, Int.mul_comm]
theorem s2_anti {i k : Nat} (h : i ≠ k) : s2 i k = -s2 k i := by
  unfold s2
  rcases Nat.lt_or_gt_of_ne h with hk | hk
  · rw [if_neg (by omega), if_pos hk, Int.mul_comm]
  · rw [if_pos hk, if_neg (by omega), Int.neg_neg, Int.mul_comm]
/-- two columns exchanged -/
theorem dt_swap (rows : List (List Int)) (a b : Nat) (cs : List Nat) : dt rows (a :: b :: cs) = -dt rows (b :: a :: cs) := by
  rw [dt_two, dt_two rows b a, S_comm, ← S_neg]
  refine S_congr fun k hk => ?_
  rw [← S_neg]
  refine S_congr fun i hi => ?_
  by_cases h : k = i
  · subst h
    rw [if_pos rfl, if_pos rfl]
    rfl
  · rw [if_neg h, if_neg (fun z => h z.symm), s2_anti (fun z => h z.symm), er2_symm rows (fun z => h z.symm)]
    simp only [Int.neg_mul]
    grind
/-- a column twice -/
theorem dt_twice (c : Nat) : ∀ (cs : List Nat) (rows : List (List Int)), c ∈ cs → dt rows (c :: cs) = 0
  | [], _, h => nomatch h
  | a :: cs, rows, h => by
    by_cases e : c = a
    · subst e
      have := dt_swap rows c c cs
      omega
    · have hm : c ∈ cs := by
        rcases List.mem_cons.mp h with z | z
        · exact absurd z e
        · exact z
      rw [dt_swap]
      show -S (fun i => sg i * ent rows i a * dt (rows.eraseIdx i) (c :: cs)) rows.length = 0
      rw [S_congr (g := fun _ => 0) fun i _ => by rw [dt_twice c cs _ hm, Int.mul_zero], S_zero]
      rfl
/-- a sum that isn't nought has a part that isn't -/
theorem S_ne {f : Nat → Int} : ∀ {n : Nat}, S f n ≠ 0 → ∃ i, i < n ∧ f i ≠ 0
  | 0, h => absurd rfl h
  | n + 1, h => by
    by_cases e : f n = 0
    · have h' : S f n ≠ 0 := fun z => h (by show S f n + f n = 0; rw [z, e]; rfl)
      obtain ⟨i, hi, hf⟩ := S_ne h'
      exact ⟨i, by omega, hf⟩
    · exact ⟨n, by omega, e⟩
/-- rows whose determinant at some columns isn't nought: none of them is a sum of the others there -/
theorem indep : ∀ (cs : List Nat) (P : List (List Int)) (δ : Nat → Int), P.length = cs.length → dt P cs ≠ 0 → (∀ c ∈ cs, S (fun i => δ i * ent P i c) P.length = 0) → ∀ i, i < P.length → δ i = 0
  | [], P, δ, hl, _, _, i, hi => by
    rw [hl] at hi
    exact absurd hi (Nat.not_lt_zero _)
  | c :: cs, P, δ, hl, hD, hz, i, hi => by
    have hD' : S (fun i => sg i * ent P i c * dt (P.eraseIdx i) cs) P.length ≠ 0 := hD
    obtain ⟨i0, hi0, hne⟩ := S_ne hD'
    have hg0 : dt (P.eraseIdx i0) cs ≠ 0 := fun z => hne (by rw [z, Int.mul_zero])
    -- the cofactors
    have hcof : ∀ c' ∈ cs, S (fun i => sg i * dt (P.eraseIdx i) cs * ent P i c') P.length = 0 := fun c' hc' => by
      have h := dt_twice c' cs P hc'
      rw [← h]
      show _ = S (fun i => sg i * ent P i c' * dt (P.eraseIdx i) cs) P.length
      exact S_congr fun i _ => by rw [Int.mul_assoc, Int.mul_assoc, Int.mul_comm (dt _ _)]
    have γ0 : sg i0 * dt (P.eraseIdx i0) cs ≠ 0 := by
      refine Int.mul_ne_zero (fun z => ?_) hg0
      have := sg_sq i0
      rw [z] at this
      cases this
    have hl' : (P.eraseIdx i0).length + 1 = P.length := by rw [List.length_eraseIdx_of_lt hi0]; omega
    have step : ∀ k, k < P.length → sg i0 * dt (P.eraseIdx i0) cs * δ k - δ i0 * (sg k * dt (P.eraseIdx k) cs) = 0 := by
      have ih := indep cs (P.eraseIdx i0) (fun j => (fun k => sg i0 * dt (P.eraseIdx i0) cs * δ k - δ i0 * (sg k * dt (P.eraseIdx k) cs)) (skip i0 j)) (by
        have : P.length = cs.length + 1 := hl
        omega) hg0 (fun c' hc' => by
          have e1 := S_skip (fun k => (sg i0 * dt (P.eraseIdx i0) cs * δ k - δ i0 * (sg k * dt (P.eraseIdx k) cs)) * ent P k c') i0 (P.eraseIdx i0).length (by omega)
          rw [hl'] at e1
          have e2 : S (fun j => (fun k => sg i0 * dt (P.eraseIdx i0) cs * δ k - δ i0 * (sg k * dt (P.eraseIdx k) cs)) (skip i0 j) * ent (P.eraseIdx i0) j c') (P.eraseIdx i0).length = S (fun j => (fun k => (sg i0 * dt (P.eraseIdx i0) cs * δ k - δ i0 * (sg k * dt (P.eraseIdx k) cs)) * ent P k c') (skip i0 j)) (P.eraseIdx i0).length := S_congr fun j _ => by rw [ent_erase]
          rw [e2, e1]
          have e3 : S (fun k => if k = i0 then 0 else (sg i0 * dt (P.eraseIdx i0) cs * δ k - δ i0 * (sg k * dt (P.eraseIdx k) cs)) * ent P k c') P.length = S (fun k => sg i0 * dt (P.eraseIdx i0) cs * (δ k * ent P k c') + -δ i0 * (sg k * dt (P.eraseIdx k) cs * ent P k c')) P.length := S_congr fun k _ => by
            by_cases hk : k = i0
            · subst hk
              rw [if_pos rfl]
              grind
            · rw [if_neg hk]
              grind
          rw [e3, S_add, S_mul, S_mul, hz c' (List.mem_cons_of_mem _ hc'), hcof c' hc', Int.mul_zero, Int.mul_zero]
          rfl)
      intro k hk
      by_cases e : k = i0
      · subst e
        grind
      · by_cases h : k < i0
        · have := ih k (by omega)
          simp only [skip, if_pos h] at this
          exact this
        · have := ih (k - 1) (by omega)
          simp only [skip, if_neg (show ¬ k - 1 < i0 by omega), show k - 1 + 1 = k by omega] at this
          exact this
    have hd0 : δ i0 = 0 := by
      have h1 := hz c List.mem_cons_self
      have h2 : S (fun k => sg i0 * dt (P.eraseIdx i0) cs * (δ k * ent P k c)) P.length = S (fun k => δ i0 * (sg k * ent P k c * dt (P.eraseIdx k) cs)) P.length := S_congr fun k hk => by
        have := step k hk
        grind
      rw [S_mul, S_mul, h1, Int.mul_zero] at h2
      rcases Int.mul_eq_zero.mp h2.symm with z | z
      · exact z
      · exact absurd z hD'
    have := step i hi
    rw [hd0, Int.zero_mul, Int.sub_zero] at this
    rcases Int.mul_eq_zero.mp this with z | z
    · exact absurd z γ0
    · exact z
/-! ### sizes -/
theorem S_abs {f : Nat → Int} {B : Nat} : ∀ {n : Nat}, (∀ i, i < n → (f i).natAbs ≤ B) → (S f n).natAbs ≤ n * B
  | 0, _ => by
    show (0 : Int).natAbs ≤ 0 * B
    rw [Nat.zero_mul]
    exact Nat.le_refl _
  | n + 1, h => by
    have h1 := S_abs (n := n) fun i hi => h i (by omega)
    have h2 := h n (by omega)
    show (S f n + f n).natAbs ≤ (n + 1) * B
    rw [Nat.succ_mul]
    omega
theorem dt_abs {A : Nat} : ∀ (cs : List Nat) (P : List (List Int)), P.length = cs.length → (∀ i c, (ent P i c).natAbs ≤ A) → (dt P cs).natAbs ≤ (cs.length * A) ^ cs.length
  | [], P, _, _ => by
    show 1 ≤ (0 * A) ^ 0
    rw [Nat.pow_zero]
    exact Nat.le_refl _
  | c :: cs, P, hl, hA => by
    have hl' : P.length = cs.length + 1 := hl
    show (S (fun i => sg i * ent P i c * dt (P.eraseIdx i) cs) P.length).natAbs ≤ _
    have hb : ∀ i, i < P.length → (sg i * ent P i c * dt (P.eraseIdx i) cs).natAbs ≤ A * ((cs.length + 1) * A) ^ cs.length := fun i hi => by
      rw [Int.natAbs_mul, Int.natAbs_mul]
      have h1 : (sg i).natAbs = 1 := by
        unfold sg
        split <;> rfl
      have h2 := dt_abs (A := A) cs (P.eraseIdx i) (by rw [List.length_eraseIdx_of_lt hi]; omega) fun j c' => by rw [ent_erase]; exact hA _ _
      have h3 : (cs.length * A) ^ cs.length ≤ ((cs.length + 1) * A) ^ cs.length := Nat.pow_le_pow_left (Nat.mul_le_mul_right A (by omega)) _
      rw [h1, Nat.one_mul]
      exact Nat.mul_le_mul (hA i c) (Nat.le_trans h2 h3)
    refine Nat.le_trans (S_abs hb) ?_
    rw [hl']
    show (cs.length + 1) * (A * ((cs.length + 1) * A) ^ cs.length) ≤ ((cs.length + 1) * A) ^ (cs.length + 1)
    rw [Nat.pow_succ, ← Nat.mul_assoc, Nat.mul_comm]
    exact Nat.le_refl _
end Fd

namespace Fd
/-! ### rows cleared at columns: how great their numbers are -/
abbrev gt (r : List Int) (x : Nat) : Int := r.getD x 0
theorem S_front (f : Nat → Int) : ∀ (n : Nat), S f (n + 1) = f 0 + S (fun i => f (i + 1)) n
  | 0 => by
    show 0 + f 0 = f 0 + 0
    omega
  | n + 1 => by
    show S f (n + 1) + f (n + 1) = f 0 + (S (fun i => f (i + 1)) n + f (n + 1))
    rw [S_front f n]
    omega
theorem ent_zero (o : List Int) (P : List (List Int)) (x : Nat) : ent (o :: P) 0 x = gt o x := rfl
theorem ent_succ (o : List Int) (P : List (List Int)) (i x : Nat) : ent (o :: P) (i + 1) x = ent P i x := rfl
/-- a column moved to the front -/
theorem dt_move : ∀ (cs : List Nat) (P : List (List Int)) (j c : Nat), cs[j]? = some c → dt P (c :: cs.eraseIdx j) = sg j * dt P cs
  | [], _, _, _, h => by simp at h
  | a :: cs, P, 0, c, h => by
    have e : a = c := Option.some.inj h
    subst e
    show dt P (a :: cs) = 1 * dt P (a :: cs)
    omega
  | a :: cs, P, j + 1, c, h => by
    have h' : cs[j]? = some c := h
    show dt P (c :: a :: cs.eraseIdx j) = _
    rw [dt_swap]
    show -S (fun i => sg i * ent P i a * dt (P.eraseIdx i) (c :: cs.eraseIdx j)) P.length = sg (j + 1) * S (fun i => sg i * ent P i a * dt (P.eraseIdx i) cs) P.length
    rw [sg_succ, Int.neg_mul, ← S_mul]
    congr 1
    exact S_congr fun i _ => by rw [dt_move cs (P.eraseIdx i) j c h']; grind
/-- the bordered minors as a sum of the rows -/
theorem dt_front (o : List Int) (P : List (List Int)) (c : List Nat) (x : Nat) : dt (o :: P) (x :: c) = dt P c * gt o x + S (fun i => sg (i + 1) * dt ((o :: P).eraseIdx (i + 1)) c * ent P i x) P.length := by
  show S (fun i => sg i * ent (o :: P) i x * dt ((o :: P).eraseIdx i) c) (P.length + 1) = _
  rw [S_front]
  have e1 : sg 0 * ent (o :: P) 0 x * dt ((o :: P).eraseIdx 0) c = dt P c * gt o x := by
    show 1 * gt o x * dt P c = _
    rw [Int.one_mul, Int.mul_comm]
  rw [e1]
  congr 1
  exact S_congr fun i _ => by rw [ent_succ]; grind
theorem dt_rows (P : List (List Int)) (c : List Nat) (x : Nat) : dt P (x :: c) = S (fun i => sg i * dt (P.eraseIdx i) c * ent P i x) P.length := by
  show S (fun i => sg i * ent P i x * dt (P.eraseIdx i) c) P.length = _
  exact S_congr fun i _ => by grind
/-- a row out of o and P that is nought at the columns c -/
def NonP (P : List (List Int)) (c : List Nat) (o r : List Int) : Prop := ∃ (a b : Int) (β : Nat → Int), a ≠ 0 ∧ b ≠ 0 ∧ (∀ x, a * gt r x = b * gt o x + S (fun i => β i * ent P i x) P.length) ∧ ∀ k ∈ c, gt r k = 0
/-- a row out of P that is nought at the columns c but the one at j -/
def PivP (P : List (List Int)) (c : List Nat) (j : Nat) (r : List Int) : Prop := ∃ (a : Int) (β : Nat → Int), a ≠ 0 ∧ (∀ x, a * gt r x = S (fun i => β i * ent P i x) P.length) ∧ (∀ k ∈ c.eraseIdx j, gt r k = 0) ∧ ∃ k, c[j]? = some k ∧ gt r k ≠ 0
theorem S_lin (u v : Int) (f g : Nat → Int) (n : Nat) : S (fun i => u * f i - v * g i) n = u * S f n - v * S g n := by
  have e : S (fun i => u * f i - v * g i) n = S (fun i => u * f i + -v * g i) n := S_congr fun i _ => by grind
  rw [e, S_add, S_mul, S_mul]
  grind
theorem NonP.par {P : List (List Int)} {c : List Nat} {o r : List Int} (hl : P.length = c.length) (hD : dt P c ≠ 0) (h : NonP P c o r) : ∃ a b : Int, a ≠ 0 ∧ b ≠ 0 ∧ ∀ x, a * gt r x = b * dt (o :: P) (x :: c) := by
  obtain ⟨a, b, β, ha, hb, hx, hz⟩ := h
  refine ⟨dt P c * a, b, Int.mul_ne_zero hD ha, hb, ?_⟩
  have key : ∀ x, dt P c * a * gt r x - b * dt (o :: P) (x :: c) = S (fun i => (dt P c * β i - b * (sg (i + 1) * dt ((o :: P).eraseIdx (i + 1)) c)) * ent P i x) P.length := fun x => by
    have e : S (fun i => (dt P c * β i - b * (sg (i + 1) * dt ((o :: P).eraseIdx (i + 1)) c)) * ent P i x) P.length = S (fun i => dt P c * (β i * ent P i x) - b * (sg (i + 1) * dt ((o :: P).eraseIdx (i + 1)) c * ent P i x)) P.length := S_congr fun i _ => by grind
    rw [e, S_lin, dt_front, Int.mul_assoc, hx]
    grind
  have z := indep c P (fun i => dt P c * β i - b * (sg (i + 1) * dt ((o :: P).eraseIdx (i + 1)) c)) hl hD fun k hk => by
    rw [← key k, hz k hk, dt_twice k c (o :: P) hk]
    grind
  intro x
  have h2 := key x
  rw [S_congr (g := fun _ => 0) fun i hi => by rw [z i hi, Int.zero_mul], S_zero] at h2
  omega
theorem PivP.par {P : List (List Int)} {c : List Nat} {j : Nat} {r : List Int} (hl : P.length = c.length) (hD : dt P c ≠ 0) (h : PivP P c j r) : ∃ a b : Int, a ≠ 0 ∧ b ≠ 0 ∧ ∀ x, a * gt r x = b * dt P (x :: c.eraseIdx j) := by
  obtain ⟨a, β, ha, hx, hz, k, hk, hne⟩ := h
  have hw : dt P (k :: c.eraseIdx j) ≠ 0 := by
    rw [dt_move c P j k hk]
    refine Int.mul_ne_zero (fun z => ?_) hD
    have := sg_sq j
    rw [z] at this
    cases this
  refine ⟨dt P (k :: c.eraseIdx j) * a, a * gt r k, Int.mul_ne_zero hw ha, Int.mul_ne_zero ha hne, ?_⟩
  have key : ∀ x, dt P (k :: c.eraseIdx j) * a * gt r x - a * gt r k * dt P (x :: c.eraseIdx j) = S (fun i => (dt P (k :: c.eraseIdx j) * β i - a * gt r k * (sg i * dt (P.eraseIdx i) (c.eraseIdx j))) * ent P i x) P.length := fun x => by
    have e : S (fun i => (dt P (k :: c.eraseIdx j) * β i - a * gt r k * (sg i * dt (P.eraseIdx i) (c.eraseIdx j))) * ent P i x) P.length = S (fun i => dt P (k :: c.eraseIdx j) * (β i * ent P i x) - a * gt r k * (sg i * dt (P.eraseIdx i) (c.eraseIdx j) * ent P i x)) P.length := S_congr fun i _ => by grind
    rw [e, S_lin, ← dt_rows, ← hx]
    grind
  have z := indep c P (fun i => dt P (k :: c.eraseIdx j) * β i - a * gt r k * (sg i * dt (P.eraseIdx i) (c.eraseIdx j))) hl hD fun m hm => by
    rw [← key m]
    obtain ⟨i, hi⟩ := List.getElem?_of_mem hm
    by_cases e : i = j
    · subst e
      have : m = k := Option.some.inj (hi.symm.trans hk)
      subst this
      grind
    · have hm2 : m ∈ c.eraseIdx j := by
        refine List.mem_eraseIdx_iff_getElem?.mpr ⟨i, e, hi⟩
      rw [hz m hm2, dt_twice m (c.eraseIdx j) P hm2]
      grind
  intro x
  have h2 := key x
  rw [S_congr (g := fun _ => 0) fun i hi => by rw [z i hi, Int.zero_mul], S_zero] at h2
  omega
/-- no whole number but 1 and -1 divides all -/
def Prim (r : List Int) : Prop := ∀ d : Int, (∀ x, d ∣ gt r x) → d.natAbs = 1
theorem prim_le {r : List Int} {w : Nat → Int} {a b : Int} (hp : Prim r) (ha : a ≠ 0) (hb : b ≠ 0) (h : ∀ x, a * gt r x = b * w x) : ∀ x, (gt r x).natAbs ≤ (w x).natAbs := by
  have hg : (Int.gcd a b : Int) ≠ 0 := fun z => ha (Int.gcd_eq_zero_iff.mp (Int.ofNat_eq_zero.mp z)).1
  obtain ⟨a', ea⟩ : (Int.gcd a b : Int) ∣ a := Int.gcd_dvd_left ..
  obtain ⟨b', eb⟩ : (Int.gcd a b : Int) ∣ b := Int.gcd_dvd_right ..
  have hcop : Int.gcd a' b' = 1 := by
    have h1 : Int.gcd a b = Int.gcd a b * Int.gcd a' b' := by
      have h2 : Int.gcd ((Int.gcd a b : Int) * a') ((Int.gcd a b : Int) * b') = (Int.gcd a b : Int).natAbs * Int.gcd a' b' := Int.gcd_mul_left ..
      rw [← ea, ← eb, Int.natAbs_natCast] at h2
      exact h2
    have h3 : 0 < Int.gcd a b := Nat.pos_of_ne_zero fun z => hg (by omega)
    exact Nat.eq_of_mul_eq_mul_left h3 (by omega)
  have h' : ∀ x, a' * gt r x = b' * w x := fun x => by
    have : (Int.gcd a b : Int) * (a' * gt r x) = (Int.gcd a b : Int) * (b' * w x) := by
      rw [← Int.mul_assoc, ← Int.mul_assoc, ← ea, ← eb]
      exact h x
    exact Int.eq_of_mul_eq_mul_left hg this
  have hdiv : ∀ x, b' ∣ gt r x := fun x => Fm.dvd_cop hcop ⟨w x, h' x⟩
  have hb1 := hp b' hdiv
  have ha0 : a' ≠ 0 := fun z => ha (by rw [ea, z, Int.mul_zero])
  intro x
  have e := congrArg Int.natAbs (h' x)
  rw [Int.natAbs_mul, Int.natAbs_mul, hb1, Nat.one_mul] at e
  rw [← e]
  exact Nat.le_mul_of_pos_left _ (by omega)
theorem pow_mono {m n A : Nat} (h : m ≤ n) (hA : 1 ≤ n * A) : (m * A) ^ m ≤ (n * A) ^ n := Nat.le_trans (Nat.pow_le_pow_left (Nat.mul_le_mul_right A h) m) (Nat.pow_le_pow_right hA h)
/-- nought everywhere -/
def Nul (r : List Int) : Prop := ∀ x, gt r x = 0
/-- what is known of the rows: P the pivots' own rows, c their columns, the last one first; O the others' own rows -/
structure Sz (A n : Nat) (P O : List (List Int)) (c : List Nat) (rows : List (List Int)) : Prop where
  lc : P.length = c.length
  lr : P.length + O.length = rows.length
  det : dt P c ≠ 0
  bP : ∀ i x, (ent P i x).natAbs ≤ A
  bO : ∀ i x, (ent O i x).natAbs ≤ A
  piv : ∀ (i : Nat) (r : List Int), i < P.length → rows[i]? = some r → PivP P c (P.length - 1 - i) r
  non : ∀ (i : Nat) (o r : List Int), O[i]? = some o → rows[P.length + i]? = some r → NonP P c o r
  pri : ∀ r ∈ rows, Prim r ∨ Nul r
theorem Sz.bound {A n : Nat} {P O : List (List Int)} {c : List Nat} {rows : List (List Int)} (h : Sz A n P O c rows) {m : Nat} (hm : rows.length ≤ m) (hA : 1 ≤ A) : ∀ r ∈ rows, ∀ x, (gt r x).natAbs ≤ (m * A) ^ m := fun r hr x => by
  obtain ⟨i, hi⟩ := List.getElem?_of_mem hr
  have hlt := (List.getElem?_eq_some_iff.mp hi).1
  rcases h.pri r hr with hp | hz
  · by_cases hip : i < P.length
    · have hpv := h.piv i r hip hi
      obtain ⟨a, b, ha, hb, e⟩ := hpv.par h.lc h.det
      refine Nat.le_trans (prim_le hp ha hb e x) ?_
      obtain ⟨_, _, _, _, _, k, hk, _⟩ := hpv
      have hj := (List.getElem?_eq_some_iff.mp hk).1
      have hl : P.length = (x :: c.eraseIdx (P.length - 1 - i)).length := by
        rw [List.length_cons, List.length_eraseIdx_of_lt hj, h.lc]
        omega
      refine Nat.le_trans (dt_abs _ P hl h.bP) ?_
      rw [← hl]
      have := h.lr
      exact pow_mono (by omega) (Nat.mul_le_mul (show 1 ≤ m by omega) hA)
    · have hO : O[i - P.length]? = some (O[i - P.length]'(by have := h.lr; omega)) := List.getElem?_eq_getElem _
      have hnp := h.non (i - P.length) _ r hO (by rw [show P.length + (i - P.length) = i by omega]; exact hi)
      obtain ⟨a, b, ha, hb, e⟩ := hnp.par h.lc h.det
      refine Nat.le_trans (prim_le hp ha hb e x) ?_
      refine Nat.le_trans (dt_abs (A := A) _ _ (by rw [List.length_cons, List.length_cons, h.lc]) fun k y => ?_) ?_
      · cases k with
        | zero =>
          rw [ent_zero]
          have := h.bO (i - P.length) y
          have e3 : O.getD (i - P.length) [] = O[i - P.length]'(by have := h.lr; omega) := by rw [List.getD_eq_getElem?_getD, hO]; rfl
          unfold ent at this
          rw [e3] at this
          exact this
        | succ k =>
          rw [ent_succ]
          exact h.bP k y
      · rw [List.length_cons, ← h.lc]
        have := h.lr
        exact pow_mono (by omega) (Nat.mul_le_mul (show 1 ≤ m by omega) hA)
  · rw [hz x]
    exact Nat.zero_le _
/-- what clearing makes: r' times a number is r times h less head times r's own -/
def Clr (h ρ : Int) (head r r' : List Int) : Prop := ∃ s : Int, s ≠ 0 ∧ ∀ x, s * gt r' x = h * gt r x - ρ * gt head x
theorem NonP.head {P : List (List Int)} {c : List Nat} {o r : List Int} {at_ : Nat} (h : NonP P c o r) (hne : gt r at_ ≠ 0) : PivP (o :: P) (at_ :: c) 0 r := by
  obtain ⟨a, b, β, ha, hb, hx, hz⟩ := h
  refine ⟨a, fun i => match i with | 0 => b | i + 1 => β i, ha, fun x => ?_, hz, at_, rfl, hne⟩
  show _ = S _ (P.length + 1)
  rw [S_front, hx x]
  rfl
theorem NonP.clear {P : List (List Int)} {c : List Nat} {o oh r head r' : List Int} {at_ : Nat} (h : NonP P c o r) (hh : NonP P c oh head) (hne : gt head at_ ≠ 0) (hc : Clr (gt head at_) (gt r at_) head r r') : NonP (oh :: P) (at_ :: c) o r' := by
  obtain ⟨a, b, β, ha, hb, hx, hz⟩ := h
  obtain ⟨a', b', β', ha', hb', hx', hz'⟩ := hh
  obtain ⟨s, hs, e⟩ := hc
  have hmul : ∀ x, a * a' * s * gt r' x = a' * gt head at_ * (a * gt r x) - a * gt r at_ * (a' * gt head x) := fun x => by
    have := e x
    grind
  refine ⟨a * a' * s, a' * gt head at_ * b, fun i => match i with | 0 => -(a * gt r at_ * b') | i + 1 => a' * gt head at_ * β i - a * gt r at_ * β' i, Int.mul_ne_zero (Int.mul_ne_zero ha ha') hs, Int.mul_ne_zero (Int.mul_ne_zero ha' hne) hb, fun x => ?_, fun k hk => ?_⟩
  · rw [hmul x, hx x, hx' x]
    show _ = _ + S _ (P.length + 1)
    rw [S_front]
    have e2 : S (fun i => (a' * gt head at_ * β i - a * gt r at_ * β' i) * ent P i x) P.length = a' * gt head at_ * S (fun i => β i * ent P i x) P.length - a * gt r at_ * S (fun i => β' i * ent P i x) P.length := by
      rw [← S_lin]
      exact S_congr fun i _ => by grind
    show _ = _ + (-(a * gt r at_ * b') * gt oh x + S (fun i => (a' * gt head at_ * β i - a * gt r at_ * β' i) * ent P i x) P.length)
    rw [e2]
    grind
  · have h1 : s * gt r' k = 0 := by
      rw [e k]
      rcases List.mem_cons.mp hk with rfl | hk
      · grind
      · rw [hz k hk, hz' k hk]
        grind
    rcases Int.mul_eq_zero.mp h1 with z | z
    · exact absurd z hs
    · exact z
theorem PivP.clear {P : List (List Int)} {c : List Nat} {j : Nat} {oh r head r' : List Int} {at_ : Nat} (h : PivP P c j r) (hh : NonP P c oh head) (hne : gt head at_ ≠ 0) (hc : Clr (gt head at_) (gt r at_) head r r') : PivP (oh :: P) (at_ :: c) (j + 1) r' := by
  obtain ⟨a, β, ha, hx, hz, k, hk, hkn⟩ := h
  obtain ⟨a', b', β', ha', hb', hx', hz'⟩ := hh
  obtain ⟨s, hs, e⟩ := hc
  have hmul : ∀ x, a * a' * s * gt r' x = a' * gt head at_ * (a * gt r x) - a * gt r at_ * (a' * gt head x) := fun x => by
    have := e x
    grind
  refine ⟨a * a' * s, fun i => match i with | 0 => -(a * gt r at_ * b') | i + 1 => a' * gt head at_ * β i - a * gt r at_ * β' i, Int.mul_ne_zero (Int.mul_ne_zero ha ha') hs, fun x => ?_, fun m hm => ?_, k, hk, fun z => ?_⟩
  · rw [hmul x, hx x, hx' x]
    show _ = S _ (P.length + 1)
    rw [S_front]
    have e2 : S (fun i => (a' * gt head at_ * β i - a * gt r at_ * β' i) * ent P i x) P.length = a' * gt head at_ * S (fun i => β i * ent P i x) P.length - a * gt r at_ * S (fun i => β' i * ent P i x) P.length := by
      rw [← S_lin]
      exact S_congr fun i _ => by grind
    show _ = -(a * gt r at_ * b') * gt oh x + S (fun i => (a' * gt head at_ * β i - a * gt r at_ * β' i) * ent P i x) P.length
    rw [e2]
    grind
  · have hm' : m ∈ at_ :: c.eraseIdx j := hm
    have h1 : s * gt r' m = 0 := by
      rw [e m]
      rcases List.mem_cons.mp hm' with rfl | hk'
      · grind
      · rw [hz m hk', hz' m (List.mem_of_mem_eraseIdx hk')]
        grind
    rcases Int.mul_eq_zero.mp h1 with z | z
    · exact absurd z hs
    · exact z
  · have h2 := e k
    rw [z, hz' k (List.mem_of_getElem? hk), Int.mul_zero, Int.mul_zero, Int.sub_zero] at h2
    rcases Int.mul_eq_zero.mp h2.symm with y | y
    · exact hne y
    · exact hkn y
/-- the pivot's minor stays other than nought -/
theorem NonP.det {P : List (List Int)} {c : List Nat} {o r : List Int} {at_ : Nat} (hl : P.length = c.length) (hD : dt P c ≠ 0) (h : NonP P c o r) (hne : gt r at_ ≠ 0) : dt (o :: P) (at_ :: c) ≠ 0 := by
  obtain ⟨a, b, ha, hb, e⟩ := h.par hl hD
  intro z
  have := e at_
  rw [z, Int.mul_zero] at this
  rcases Int.mul_eq_zero.mp this with y | y
  · exact ha y
  · exact hne y
end Fd

namespace Fd
/-! ### minors bordered twice; what rows span is told by columns -/
/-- two sums of the rows that are the same at the columns are the same -/
theorem dt_ext {P : List (List Int)} {c : List Nat} (hl : P.length = c.length) (hD : dt P c ≠ 0) {f g : Nat → Int} (β γ : Nat → Int) (hf : ∀ x, f x = S (fun i => β i * ent P i x) P.length) (hg : ∀ x, g x = S (fun i => γ i * ent P i x) P.length) (he : ∀ k ∈ c, f k = g k) : ∀ x, f x = g x := by
  have key : ∀ x, f x - g x = S (fun i => (β i - γ i) * ent P i x) P.length := fun x => by
    have e : S (fun i => (β i - γ i) * ent P i x) P.length = S (fun i => 1 * (β i * ent P i x) - 1 * (γ i * ent P i x)) P.length := S_congr fun i _ => by grind
    rw [e, S_lin, hf, hg]
    omega
  have z := indep c P (fun i => β i - γ i) hl hD fun k hk => by
    rw [← key k, he k hk]
    omega
  intro x
  have h2 := key x
  rw [S_congr (g := fun _ => 0) fun i hi => by rw [z i hi, Int.zero_mul], S_zero] at h2
  omega
/-- a row and others, bordered by one row and column more -/
theorem dt_syl {P : List (List Int)} {c : List Nat} (hl : P.length = c.length) {o h : List Int} {k : Nat} (hD : dt (h :: P) (k :: c) ≠ 0) (x : Nat) :
    dt P c * dt (o :: h :: P) (x :: k :: c) = dt (o :: P) (x :: c) * dt (h :: P) (k :: c) - dt (o :: P) (k :: c) * dt (h :: P) (x :: c) := by
  have hl' : (h :: P).length = (k :: c).length := by rw [List.length_cons, List.length_cons, hl]
  have e1 : ∀ x, dt (o :: h :: P) (x :: k :: c) = dt (h :: P) (k :: c) * gt o x + S (fun i => sg (i + 1) * dt ((o :: h :: P).eraseIdx (i + 1)) (k :: c) * ent (h :: P) i x) (h :: P).length := fun x => dt_front o (h :: P) (k :: c) x
  have e2 : ∀ x, dt (o :: P) (x :: c) = dt P c * gt o x + S (fun i => sg (i + 1) * dt ((o :: P).eraseIdx (i + 1)) c * ent P i x) P.length := fun x => dt_front o P c x
  have e3 : ∀ x, dt (h :: P) (x :: c) = dt P c * gt h x + S (fun i => sg (i + 1) * dt ((h :: P).eraseIdx (i + 1)) c * ent P i x) P.length := fun x => dt_front h P c x
  have hh := dt_ext hl' hD (f := fun x => dt P c * dt (o :: h :: P) (x :: k :: c) - dt P c * dt (h :: P) (k :: c) * gt o x) (g := fun x => dt (o :: P) (x :: c) * dt (h :: P) (k :: c) - dt (o :: P) (k :: c) * dt (h :: P) (x :: c) - dt P c * dt (h :: P) (k :: c) * gt o x)
    (fun i => dt P c * (sg (i + 1) * dt ((o :: h :: P).eraseIdx (i + 1)) (k :: c)))
    (fun i => match i with | 0 => -(dt (o :: P) (k :: c) * dt P c) | i + 1 => dt (h :: P) (k :: c) * (sg (i + 1) * dt ((o :: P).eraseIdx (i + 1)) c) - dt (o :: P) (k :: c) * (sg (i + 1) * dt ((h :: P).eraseIdx (i + 1)) c))
    (fun x => by
      have e : S (fun i => dt P c * (sg (i + 1) * dt ((o :: h :: P).eraseIdx (i + 1)) (k :: c)) * ent (h :: P) i x) (h :: P).length = dt P c * S (fun i => sg (i + 1) * dt ((o :: h :: P).eraseIdx (i + 1)) (k :: c) * ent (h :: P) i x) (h :: P).length := by
        rw [← S_mul]
        exact S_congr fun i _ => by grind
      rw [e]
      have := e1 x
      grind)
    (fun x => by
      show _ = S _ (P.length + 1)
      rw [S_front]
      have e : S (fun i => (dt (h :: P) (k :: c) * (sg (i + 1) * dt ((o :: P).eraseIdx (i + 1)) c) - dt (o :: P) (k :: c) * (sg (i + 1) * dt ((h :: P).eraseIdx (i + 1)) c)) * ent P i x) P.length = dt (h :: P) (k :: c) * S (fun i => sg (i + 1) * dt ((o :: P).eraseIdx (i + 1)) c * ent P i x) P.length - dt (o :: P) (k :: c) * S (fun i => sg (i + 1) * dt ((h :: P).eraseIdx (i + 1)) c * ent P i x) P.length := by
        rw [← S_lin]
        exact S_congr fun i _ => by grind
      show _ = -(dt (o :: P) (k :: c) * dt P c) * gt h x + S (fun i => (dt (h :: P) (k :: c) * (sg (i + 1) * dt ((o :: P).eraseIdx (i + 1)) c) - dt (o :: P) (k :: c) * (sg (i + 1) * dt ((h :: P).eraseIdx (i + 1)) c)) * ent P i x) P.length
      rw [e]
      have h2 := e2 x
      have h3 := e3 x
      grind)
    (fun m hm => by
      have z1 : dt (o :: h :: P) (m :: k :: c) = 0 := dt_twice m (k :: c) _ hm
      show dt P c * dt (o :: h :: P) (m :: k :: c) - _ = _
      rw [z1]
      rcases List.mem_cons.mp hm with rfl | hm'
      · grind
      · rw [dt_twice m c (o :: P) hm', dt_twice m c (h :: P) hm']
        grind) x
  have hh' : dt P c * dt (o :: h :: P) (x :: k :: c) - dt P c * dt (h :: P) (k :: c) * gt o x = dt (o :: P) (x :: c) * dt (h :: P) (k :: c) - dt (o :: P) (k :: c) * dt (h :: P) (x :: c) - dt P c * dt (h :: P) (k :: c) * gt o x := hh
  omega
/-- the pivots' rows, with one row and column more -/
theorem dt_piv {P : List (List Int)} {c : List Nat} (hl : P.length = c.length) {h : List Int} {k j m : Nat} (hj : c[j]? = some m) (hD : dt (h :: P) (k :: c) ≠ 0) (x : Nat) :
    dt P c * dt (h :: P) (x :: k :: c.eraseIdx j) = -(dt P (x :: c.eraseIdx j) * dt (h :: P) (k :: c) - dt P (k :: c.eraseIdx j) * dt (h :: P) (x :: c)) := by
  have hl' : (h :: P).length = (k :: c).length := by rw [List.length_cons, List.length_cons, hl]
  have mv := dt_move c P j m hj
  have mvh := dt_move (k :: c) (h :: P) (j + 1) m hj
  have mvh' : dt (h :: P) (m :: k :: c.eraseIdx j) = sg (j + 1) * dt (h :: P) (k :: c) := mvh
  have e3 : ∀ x, dt (h :: P) (x :: c) = dt P c * gt h x + S (fun i => sg (i + 1) * dt ((h :: P).eraseIdx (i + 1)) c * ent P i x) P.length := fun x => dt_front h P c x
  refine dt_ext hl' hD (f := fun x => dt P c * dt (h :: P) (x :: k :: c.eraseIdx j)) (g := fun x => -(dt P (x :: c.eraseIdx j) * dt (h :: P) (k :: c) - dt P (k :: c.eraseIdx j) * dt (h :: P) (x :: c)))
    (fun i => dt P c * (sg i * dt ((h :: P).eraseIdx i) (k :: c.eraseIdx j)))
    (fun i => match i with | 0 => dt P (k :: c.eraseIdx j) * dt P c | i + 1 => -(dt (h :: P) (k :: c) * (sg i * dt (P.eraseIdx i) (c.eraseIdx j))) + dt P (k :: c.eraseIdx j) * (sg (i + 1) * dt ((h :: P).eraseIdx (i + 1)) c))
    (fun x => ?_) (fun x => ?_) (fun y hy => ?_) x
  · show dt P c * dt (h :: P) (x :: k :: c.eraseIdx j) = _
    rw [dt_rows (h :: P) (k :: c.eraseIdx j) x, ← S_mul]
    exact S_congr fun i _ => by grind
  · show _ = S _ (P.length + 1)
    rw [S_front]
    have e : S (fun i => (-(dt (h :: P) (k :: c) * (sg i * dt (P.eraseIdx i) (c.eraseIdx j))) + dt P (k :: c.eraseIdx j) * (sg (i + 1) * dt ((h :: P).eraseIdx (i + 1)) c)) * ent P i x) P.length = dt P (k :: c.eraseIdx j) * S (fun i => sg (i + 1) * dt ((h :: P).eraseIdx (i + 1)) c * ent P i x) P.length - dt (h :: P) (k :: c) * S (fun i => sg i * dt (P.eraseIdx i) (c.eraseIdx j) * ent P i x) P.length := by
      rw [← S_lin]
      exact S_congr fun i _ => by grind
    show _ = dt P (k :: c.eraseIdx j) * dt P c * gt h x + S (fun i => (-(dt (h :: P) (k :: c) * (sg i * dt (P.eraseIdx i) (c.eraseIdx j))) + dt P (k :: c.eraseIdx j) * (sg (i + 1) * dt ((h :: P).eraseIdx (i + 1)) c)) * ent P i x) P.length
    rw [e, ← dt_rows]
    have h3 := e3 x
    grind
  · show dt P c * dt (h :: P) (y :: k :: c.eraseIdx j) = -(dt P (y :: c.eraseIdx j) * dt (h :: P) (k :: c) - dt P (k :: c.eraseIdx j) * dt (h :: P) (y :: c))
    rcases List.mem_cons.mp hy with rfl | hy'
    · rw [dt_twice y (y :: c.eraseIdx j) (h :: P) List.mem_cons_self]
      grind
    · rw [dt_twice y c (h :: P) hy']
      obtain ⟨i, hi⟩ := List.getElem?_of_mem hy'
      by_cases e : i = j
      · subst e
        have : y = m := Option.some.inj (hi.symm.trans hj)
        subst this
        rw [mv, mvh', sg_succ]
        grind
      · have hm2 : y ∈ c.eraseIdx j := List.mem_eraseIdx_iff_getElem?.mpr ⟨i, e, hi⟩
        rw [dt_twice y (c.eraseIdx j) P hm2, dt_twice y (k :: c.eraseIdx j) (h :: P) (List.mem_cons_of_mem _ hm2)]
        grind
end Fd
namespace Fr
open Lean.Grind
variable {F : Type} [CommRing F]
/-! ### how many rows: none of rows that the others don't span more than rows that span them -/
theorem InS.mono {L M : List (Row F)} {v : Row F} (h : InS L v) (hs : ∀ r ∈ L, r ∈ M) : InS M v := h.trans fun r hr => InS.mem (hs r hr)
theorem InS.split {l : Row F} {L : List (Row F)} {v : Row F} (h : InS (l :: L) v) : ∃ (a : F) (u : Row F), InS L u ∧ v = fun j => a * l j + u j := by
  refine h (fun v => ∃ (a : F) (u : Row F), InS L u ∧ v = fun j => a * l j + u j) ⟨⟨0, fun _ => 0, (InS.spc L).zero, funext fun j => by grind⟩, fun u v hu hv => ?_, fun c u hu => ?_⟩ fun r hr => ?_
  · obtain ⟨a, u', h1, rfl⟩ := hu
    obtain ⟨b, v', h2, rfl⟩ := hv
    exact ⟨a + b, _, (InS.spc L).add _ _ h1 h2, funext fun j => by grind⟩
  · obtain ⟨a, u', h1, rfl⟩ := hu
    exact ⟨c * a, _, (InS.spc L).mul c _ h1, funext fun j => by grind⟩
  · rcases List.mem_cons.mp hr with rfl | hr
    · exact ⟨1, fun _ => 0, (InS.spc L).zero, funext fun j => by grind⟩
    · exact ⟨0, r, InS.mem hr, funext fun j => by grind⟩
/-- none is spanned by those behind it -/
def Ind : List (Row F) → Prop
  | [] => True
  | v :: M => ¬ InS M v ∧ Ind M
end Fr

namespace Fr
open Lean.Grind
variable {F : Type} [CommRing F]
/-! ### determinants in any ring: by the first column; as what is linear in each row and nought where two rows are the same -/
def SF (f : Nat → F) : Nat → F
  | 0 => 0
  | n + 1 => SF f n + f n
theorem SF_congr {f g : Nat → F} : ∀ {n : Nat}, (∀ i, i < n → f i = g i) → SF f n = SF g n
  | 0, _ => rfl
  | n + 1, h => by
    show SF f n + f n = SF g n + g n
    rw [SF_congr (n := n) fun i hi => h i (by omega), h n (by omega)]
theorem SF_zero : ∀ (n : Nat), SF (fun _ => (0 : F)) n = 0
  | 0 => rfl
  | n + 1 => by
    show SF (fun _ => (0 : F)) n + 0 = 0
    rw [SF_zero n]
    grind
theorem SF_nul {f : Nat → F} {n : Nat} (h : ∀ i, i < n → f i = 0) : SF f n = 0 := by rw [SF_congr h, SF_zero]
theorem SF_add (f g : Nat → F) : ∀ (n : Nat), SF (fun i => f i + g i) n = SF f n + SF g n
  | 0 => by
    show (0 : F) = 0 + 0
    grind
  | n + 1 => by
    show SF (fun i => f i + g i) n + (f n + g n) = SF f n + f n + (SF g n + g n)
    rw [SF_add f g n]
    grind
theorem SF_mul (c : F) (f : Nat → F) : ∀ (n : Nat), SF (fun i => c * f i) n = c * SF f n
  | 0 => by
    show (0 : F) = c * 0
    grind
  | n + 1 => by
    show SF (fun i => c * f i) n + c * f n = c * (SF f n + f n)
    rw [SF_mul c f n]
    grind
theorem SF_front (f : Nat → F) : ∀ (n : Nat), SF f (n + 1) = f 0 + SF (fun i => f (i + 1)) n
  | 0 => by
    show (0 : F) + f 0 = f 0 + 0
    grind
  | n + 1 => by
    show SF f (n + 1) + f (n + 1) = f 0 + (SF (fun i => f (i + 1)) n + f (n + 1))
    rw [SF_front f n]
    grind
theorem SF_split (f : Nat → F) (a : Nat) : ∀ (b : Nat), SF f (a + 1 + b) = SF f a + f a + SF (fun i => f (a + 1 + i)) b
  | 0 => by
    show SF f a + f a = SF f a + f a + 0
    grind
  | b + 1 => by
    show SF f (a + 1 + b) + f (a + 1 + b) = SF f a + f a + (SF (fun i => f (a + 1 + i)) b + f (a + 1 + b))
    rw [SF_split f a b]
    grind
def sF (k : Nat) : F := if k % 2 = 0 then 1 else -1
theorem sF_succ (k : Nat) : (sF (k + 1) : F) = -sF k := by
  unfold sF
  by_cases h : k % 2 = 0
  · rw [if_pos h, if_neg (by omega)]
  · rw [if_neg h, if_pos (by omega)]
    grind
theorem sF_sq (k : Nat) : (sF k * sF k : F) = 1 := by
  unfold sF
  split <;> grind
def zr : Row F := fun _ => 0
def dC : List (Row F) → List Nat → F
  | _, [] => 1
  | rows, c :: cs => SF (fun i => sF i * (rows.getD i zr) c * dC (rows.eraseIdx i) cs) rows.length
def dR : List (Row F) → List Nat → F
  | [], _ => 1
  | r :: rs, cs => SF (fun k => sF k * r (cs.getD k 0) * dR rs (cs.eraseIdx k)) cs.length
theorem dC_at (pre : List (Row F)) (u : Row F) (post : List (Row F)) (c : Nat) (cs : List Nat) : dC (pre ++ u :: post) (c :: cs) = SF (fun i => sF i * (pre.getD i zr) c * dC (pre.eraseIdx i ++ u :: post) cs) pre.length + sF pre.length * u c * dC (pre ++ post) cs + SF (fun j => sF (pre.length + 1 + j) * (post.getD j zr) c * dC (pre ++ u :: post.eraseIdx j) cs) post.length := by
  show SF (fun i => sF i * ((pre ++ u :: post).getD i zr) c * dC ((pre ++ u :: post).eraseIdx i) cs) (pre ++ u :: post).length = _
  rw [show (pre ++ u :: post).length = pre.length + 1 + post.length by rw [List.length_append, List.length_cons]; omega, SF_split]
  congr 1
  · congr 1
    · refine SF_congr fun i hi => ?_
      rw [List.eraseIdx_append_of_lt_length hi]
      congr 2
      rw [List.getD_eq_getElem?_getD, List.getD_eq_getElem?_getD, List.getElem?_append_left hi]
    · have e1 : (pre ++ u :: post).getD pre.length zr = u := by
        rw [List.getD_eq_getElem?_getD, List.getElem?_append_right (Nat.le_refl _), Nat.sub_self]
        rfl
      rw [e1, List.eraseIdx_append_of_length_le (Nat.le_refl _), Nat.sub_self]
      rfl
  · refine SF_congr fun j hj => ?_
    have e1 : (pre ++ u :: post).getD (pre.length + 1 + j) zr = post.getD j zr := by
      rw [List.getD_eq_getElem?_getD, List.getD_eq_getElem?_getD, List.getElem?_append_right (by omega), show pre.length + 1 + j - pre.length = j + 1 by omega]
      rfl
    rw [e1, List.eraseIdx_append_of_length_le (by omega), show pre.length + 1 + j - pre.length = j + 1 by omega]
    rfl
/-- linear in each of m rows; nought where two that stand beside each other are the same -/
structure Alt (m : Nat) (f : List (Row F) → F) : Prop where
  add : ∀ (pre : List (Row F)) (u v : Row F) (post : List (Row F)), pre.length + post.length + 1 = m → f (pre ++ (fun j => u j + v j) :: post) = f (pre ++ u :: post) + f (pre ++ v :: post)
  mul : ∀ (pre : List (Row F)) (c : F) (u : Row F) (post : List (Row F)), pre.length + post.length + 1 = m → f (pre ++ (fun j => c * u j) :: post) = c * f (pre ++ u :: post)
  alt : ∀ (pre : List (Row F)) (u : Row F) (post : List (Row F)), pre.length + post.length + 2 = m → f (pre ++ u :: u :: post) = 0
theorem dC_alt : ∀ (cs : List Nat), Alt cs.length (fun rows : List (Row F) => dC rows cs)
  | [] => ⟨fun _ _ _ _ h => by simp at h, fun _ _ _ _ h => by simp at h, fun _ _ _ h => by simp at h⟩
  | c :: cs => by
    have ih := dC_alt cs
    refine ⟨fun pre u v post h => ?_, fun pre k u post h => ?_, fun pre u post h => ?_⟩
    · rw [List.length_cons] at h
      show dC (pre ++ (fun j => u j + v j) :: post) (c :: cs) = dC (pre ++ u :: post) (c :: cs) + dC (pre ++ v :: post) (c :: cs)
      rw [dC_at, dC_at, dC_at]
      have e1 : SF (fun i => sF i * (pre.getD i zr) c * dC (pre.eraseIdx i ++ (fun j => u j + v j) :: post) cs) pre.length = SF (fun i => sF i * (pre.getD i zr) c * dC (pre.eraseIdx i ++ u :: post) cs) pre.length + SF (fun i => sF i * (pre.getD i zr) c * dC (pre.eraseIdx i ++ v :: post) cs) pre.length := by
        rw [← SF_add]
        refine SF_congr fun i hi => ?_
        have := ih.add (pre.eraseIdx i) u v post (by rw [List.length_eraseIdx_of_lt hi]; omega)
        rw [this]
        grind
      have e2 : SF (fun j => sF (pre.length + 1 + j) * (post.getD j zr) c * dC (pre ++ (fun j => u j + v j) :: post.eraseIdx j) cs) post.length = SF (fun j => sF (pre.length + 1 + j) * (post.getD j zr) c * dC (pre ++ u :: post.eraseIdx j) cs) post.length + SF (fun j => sF (pre.length + 1 + j) * (post.getD j zr) c * dC (pre ++ v :: post.eraseIdx j) cs) post.length := by
        rw [← SF_add]
        refine SF_congr fun i hi => ?_
        have := ih.add pre u v (post.eraseIdx i) (by rw [List.length_eraseIdx_of_lt hi]; omega)
        rw [this]
        grind
      rw [e1, e2]
      grind
    · rw [List.length_cons] at h
      show dC (pre ++ (fun j => k * u j) :: post) (c :: cs) = k * dC (pre ++ u :: post) (c :: cs)
      rw [dC_at, dC_at]
      have e1 : SF (fun i => sF i * (pre.getD i zr) c * dC (pre.eraseIdx i ++ (fun j => k * u j) :: post) cs) pre.length = k * SF (fun i => sF i * (pre.getD i zr) c * dC (pre.eraseIdx i ++ u :: post) cs) pre.length := by
        rw [← SF_mul]
        refine SF_congr fun i hi => ?_
        have := ih.mul (pre.eraseIdx i) k u post (by rw [List.length_eraseIdx_of_lt hi]; omega)
        rw [this]
        grind
      have e2 : SF (fun j => sF (pre.length + 1 + j) * (post.getD j zr) c * dC (pre ++ (fun j => k * u j) :: post.eraseIdx j) cs) post.length = k * SF (fun j => sF (pre.length + 1 + j) * (post.getD j zr) c * dC (pre ++ u :: post.eraseIdx j) cs) post.length := by
        rw [← SF_mul]
        refine SF_congr fun i hi => ?_
        have := ih.mul pre k u (post.eraseIdx i) (by rw [List.length_eraseIdx_of_lt hi]; omega)
        rw [this]
        grind
      rw [e1, e2]
      grind
    · rw [List.length_cons] at h
      show dC (pre ++ u :: u :: post) (c :: cs) = 0
      rw [dC_at, List.length_cons, SF_front]
      have e1 : SF (fun i => sF i * (pre.getD i zr) c * dC (pre.eraseIdx i ++ u :: u :: post) cs) pre.length = 0 := SF_nul fun i hi => by
        have := ih.alt (pre.eraseIdx i) u post (by rw [List.length_eraseIdx_of_lt hi]; omega)
        rw [this]
        grind
      have e2 : SF (fun i => sF (pre.length + 1 + (i + 1)) * ((u :: post).getD (i + 1) zr) c * dC (pre ++ u :: (u :: post).eraseIdx (i + 1)) cs) post.length = 0 := SF_nul fun i hi => by
        have := ih.alt pre u (post.eraseIdx i) (by rw [List.length_eraseIdx_of_lt hi]; omega)
        show sF (pre.length + 1 + (i + 1)) * (post.getD i zr) c * dC (pre ++ u :: u :: post.eraseIdx i) cs = 0
        rw [this]
        grind
      rw [e1, e2]
      show 0 + sF pre.length * u c * dC (pre ++ u :: post) cs + (sF (pre.length + 1) * u c * dC (pre ++ u :: post) cs + 0) = 0
      rw [sF_succ]
      grind
section
variable {m : Nat} {f : List (Row F) → F}
theorem Alt.zero (a : Alt m f) {pre post : List (Row F)} (h : pre.length + post.length + 1 = m) : f (pre ++ (fun _ => 0) :: post) = 0 := by
  have := a.mul pre 0 (fun _ => 0) post h
  have e : (fun j : Nat => (0 : F) * (fun _ : Nat => (0 : F)) j) = fun _ => 0 := funext fun j => by grind
  rw [e] at this
  rw [this]
  grind
theorem Alt.swap (a : Alt m f) {pre post : List (Row F)} {u v : Row F} (h : pre.length + post.length + 2 = m) : f (pre ++ u :: v :: post) = -f (pre ++ v :: u :: post) := by
  have h1 := a.alt pre (fun j => u j + v j) post h
  have h2 := a.add pre u v ((fun j => u j + v j) :: post) (by rw [List.length_cons]; omega)
  have h3 := a.add (pre ++ [u]) u v post (by rw [List.length_append]; show pre.length + 1 + post.length + 1 = m; omega)
  have h4 := a.add (pre ++ [v]) u v post (by rw [List.length_append]; show pre.length + 1 + post.length + 1 = m; omega)
  have h5 := a.alt pre u post h
  have h6 := a.alt pre v post h
  simp only [List.append_assoc, List.singleton_append] at h3 h4
  rw [h1, h3, h4, h5, h6] at h2
  grind
theorem Alt.move (a : Alt m f) {u : Row F} : ∀ (mid pre post : List (Row F)), pre.length + mid.length + post.length + 1 = m → f (pre ++ u :: (mid ++ post)) = sF mid.length * f (pre ++ mid ++ u :: post)
  | [], pre, post, _ => by
    show f (pre ++ u :: post) = 1 * f (pre ++ [] ++ u :: post)
    rw [List.append_nil]
    grind
  | v :: mid, pre, post, h => by
    rw [List.length_cons] at h
    have h1 := a.swap (pre := pre) (post := mid ++ post) (u := u) (v := v) (by rw [List.length_append]; omega)
    have h2 := Alt.move a mid (pre ++ [v]) post (by rw [List.length_append]; show pre.length + 1 + mid.length + post.length + 1 = m; omega) (u := u)
    simp only [List.append_assoc, List.singleton_append] at h2
    show f (pre ++ u :: v :: (mid ++ post)) = sF (mid.length + 1) * f (pre ++ v :: mid ++ u :: post)
    rw [h1, h2, sF_succ]
    simp only [List.append_assoc, List.cons_append]
    grind
/-- nought where a row stands twice -/
theorem Alt.twice (a : Alt m f) {u : Row F} (pre mid post : List (Row F)) (h : pre.length + mid.length + post.length + 2 = m) : f (pre ++ u :: (mid ++ u :: post)) = 0 := by
  rw [a.move mid pre (u :: post) (by rw [List.length_cons]; omega)]
  have := a.alt (pre ++ mid) u post (by rw [List.length_append]; omega)
  rw [this]
  grind
theorem Alt.clear1 (a : Alt m f) {u r : Row F} {k : F} {pre post : List (Row F)} (hu : u ∈ pre) (h : pre.length + post.length + 1 = m) : f (pre ++ (fun j => r j + k * u j) :: post) = f (pre ++ r :: post) := by
  rw [a.add pre r (fun j => k * u j) post h, a.mul pre k u post h]
  obtain ⟨p1, p2, rfl⟩ := List.append_of_mem hu
  rw [List.length_append, List.length_cons] at h
  have := a.twice (u := u) p1 p2 post (by omega)
  rw [show p1 ++ u :: p2 ++ u :: post = p1 ++ u :: (p2 ++ u :: post) by rw [List.append_assoc]; rfl, this]
  grind
theorem Alt.clear (a : Alt m f) {u : Row F} {k : Row F → F} : ∀ (rs pre : List (Row F)), u ∈ pre → pre.length + rs.length = m → f (pre ++ rs.map fun r j => r j + k r * u j) = f (pre ++ rs)
  | [], _, _, _ => rfl
  | r :: rs, pre, hu, h => by
    rw [List.length_cons] at h
    have h1 := a.clear1 (r := r) (k := k r) (pre := pre) (post := rs.map fun r j => r j + k r * u j) hu (by rw [List.length_map]; omega)
    have h2 := Alt.clear a (k := k) rs (pre ++ [r]) (List.mem_append_left _ hu) (by rw [List.length_append]; show pre.length + 1 + rs.length = m; omega)
    simp only [List.append_assoc, List.singleton_append] at h2
    show f (pre ++ (fun j => r j + k r * u j) :: rs.map fun r j => r j + k r * u j) = _
    rw [h1, h2]
theorem Alt.sum (a : Alt m f) {pre post : List (Row F)} (h : pre.length + post.length + 1 = m) (c : Nat → F) (U : Nat → Row F) : ∀ n, f (pre ++ (fun j => SF (fun k => c k * U k j) n) :: post) = SF (fun k => c k * f (pre ++ U k :: post)) n
  | 0 => a.zero h
  | n + 1 => by
    show f (pre ++ (fun j => SF (fun k => c k * U k j) n + c n * U n j) :: post) = SF (fun k => c k * f (pre ++ U k :: post)) n + c n * f (pre ++ U n :: post)
    rw [a.add pre (fun j => SF (fun k => c k * U k j) n) (fun j => c n * U n j) post h, a.mul pre (c n) (U n) post h, Alt.sum a h c U n]
theorem Alt.tail (a : Alt (m + 1) f) (u : Row F) : Alt m fun rows => f (u :: rows) :=
  ⟨fun pre v w post h => a.add (u :: pre) v w post (by rw [List.length_cons]; omega), fun pre c v post h => a.mul (u :: pre) c v post (by rw [List.length_cons]; omega), fun pre v post h => a.alt (u :: pre) v post (by rw [List.length_cons]; omega)⟩
end
def unit (c : Nat) : Row F := fun j => if j = c then 1 else 0
theorem by_units (r : Row F) (j : Nat) : ∀ (cs : List Nat), cs.Nodup → SF (fun k => r (cs.getD k 0) * unit (cs.getD k 0) j) cs.length = if j ∈ cs then r j else 0
  | [], _ => by
    rw [if_neg (by simp)]
    rfl
  | c :: cs, h => by
    rw [List.length_cons, SF_front]
    have hc := List.nodup_cons.mp h
    have ih := by_units r j cs hc.2
    show r c * unit c j + SF (fun k => r (cs.getD k 0) * unit (cs.getD k 0) j) cs.length = _
    rw [ih]
    unfold unit
    by_cases e : j = c
    · subst e
      rw [if_pos rfl, if_neg hc.1, if_pos List.mem_cons_self]
      grind
    · rw [if_neg e]
      by_cases hm : j ∈ cs
      · rw [if_pos hm, if_pos (List.mem_cons_of_mem _ hm)]
        grind
      · rw [if_neg hm, if_neg (fun z => (List.mem_cons.mp z).elim e hm)]
        grind
theorem dR_congr : ∀ (rs ss : List (Row F)) (cs : List Nat), rs.length = ss.length → (∀ (i : Nat) (r s : Row F), rs[i]? = some r → ss[i]? = some s → ∀ j ∈ cs, r j = s j) → dR rs cs = dR ss cs
  | [], [], _, _, _ => rfl
  | [], _ :: _, _, h, _ => by cases h
  | _ :: _, [], _, h, _ => by cases h
  | r :: rs, s :: ss, cs, h, he => by
    show SF _ cs.length = SF _ cs.length
    refine SF_congr fun k hk => ?_
    have hm : cs.getD k 0 ∈ cs := by
      rw [List.getD_eq_getElem?_getD, List.getElem?_eq_getElem hk]
      exact List.getElem_mem hk
    rw [he 0 r s rfl rfl _ hm, dR_congr rs ss (cs.eraseIdx k) (Nat.succ.inj h) fun i a b ha hb j hj => he (i + 1) a b ha hb j (List.mem_of_mem_eraseIdx hj)]
theorem erase_parts {α : Type} {cs : List α} {k : Nat} {d : α} (h : k < cs.length) : cs = cs.take k ++ cs.getD k d :: cs.drop (k + 1) ∧ cs.eraseIdx k = cs.take k ++ cs.drop (k + 1) := by
  refine ⟨?_, List.eraseIdx_eq_take_drop_succ ..⟩
  rw [List.getD_eq_getElem?_getD, List.getElem?_eq_getElem h]
  show cs = cs.take k ++ cs[k] :: cs.drop (k + 1)
  rw [← List.drop_eq_getElem_cons h, List.take_append_drop]
/-- what is linear so is the determinant times its worth at ones -/
theorem alt_det : ∀ (rs : List (Row F)) (cs : List Nat) (f : List (Row F) → F), Alt cs.length f → rs.length = cs.length → cs.Nodup → (∀ r ∈ rs, ∀ j, j ∉ cs → r j = 0) → f rs = dR rs cs * f (cs.map unit)
  | [], cs, f, a, hl, _, _ => by
    have : cs = [] := List.length_eq_zero_iff.mp hl.symm
    subst this
    show f [] = 1 * f []
    grind
  | r :: rs, cs, f, a, hl, hn, hs => by
    obtain ⟨m, hm⟩ : ∃ m, cs.length = m + 1 := ⟨rs.length, hl.symm⟩
    have hrs : rs.length = m := by rw [List.length_cons] at hl; omega
    rw [hm] at a
    have er : r = fun j => SF (fun k => r (cs.getD k 0) * unit (cs.getD k 0) j) cs.length := by
      funext j
      rw [by_units r j cs hn]
      by_cases h : j ∈ cs
      · rw [if_pos h]
      · rw [if_neg h]
        exact hs r List.mem_cons_self j h
    have h1 : f (r :: rs) = SF (fun k => r (cs.getD k 0) * f (unit (cs.getD k 0) :: rs)) cs.length := by
      have := a.sum (pre := []) (post := rs) (by rw [List.length_nil]; omega) (fun k => r (cs.getD k 0)) (fun k => unit (cs.getD k 0)) cs.length
      have e2 : f (r :: rs) = f ([] ++ (fun j => SF (fun k => r (cs.getD k 0) * unit (cs.getD k 0) j) cs.length) :: rs) := by
        rw [← er]
        rfl
      rw [e2, this]
      rfl
    rw [h1]
    show _ = SF (fun k => sF k * r (cs.getD k 0) * dR rs (cs.eraseIdx k)) cs.length * f (cs.map unit)
    have h2 : SF (fun k => sF k * r (cs.getD k 0) * dR rs (cs.eraseIdx k)) cs.length * f (cs.map unit) = SF (fun k => f (cs.map unit) * (sF k * r (cs.getD k 0) * dR rs (cs.eraseIdx k))) cs.length := by
      rw [SF_mul]
      grind
    rw [h2]
    refine SF_congr fun k hk => ?_
    obtain ⟨ep, ee⟩ := erase_parts (d := 0) hk
    generalize hck : cs.getD k 0 = ck at *
    have hnd : ck ∉ cs.eraseIdx k := by
      rw [ee]
      rw [ep] at hn
      have h3 := List.nodup_append.mp hn
      intro z
      rcases List.mem_append.mp z with z | z
      · exact h3.2.2 ck z ck List.mem_cons_self rfl
      · exact (List.nodup_cons.mp h3.2.1).1 z
    have hl2 : (cs.eraseIdx k).length = m := by rw [List.length_eraseIdx_of_lt hk]; omega
    -- the column cleared
    have h3 : f (unit ck :: rs) = f (unit ck :: rs.map fun r j => r j + -(r ck) * unit ck j) := by
      have := a.clear (u := unit ck) (k := fun r => -(r ck)) rs [unit ck] List.mem_cons_self (by show 1 + rs.length = m + 1; omega)
      exact this.symm
    have h4 := alt_det (rs.map fun r j => r j + -(r ck) * unit ck j) (cs.eraseIdx k) (fun rows => f (unit ck :: rows)) (by rw [hl2]; exact a.tail (unit ck)) (by rw [List.length_map, hl2, hrs]) (hn.sublist (List.eraseIdx_sublist ..)) (fun s hs' j hj => by
      obtain ⟨s0, h0, rfl⟩ := List.mem_map.mp hs'
      show s0 j + -(s0 ck) * unit ck j = 0
      unfold unit
      by_cases e : j = ck
      · subst e
        rw [if_pos rfl]
        grind
      · rw [if_neg e]
        have : j ∉ cs := fun z => by
          rw [ep] at z
          rw [ee] at hj
          rcases List.mem_append.mp z with z | z
          · exact hj (List.mem_append_left _ z)
          · rcases List.mem_cons.mp z with z | z
            · exact e z
            · exact hj (List.mem_append_right _ z)
        rw [hs s0 (List.mem_cons_of_mem _ h0) j this]
        grind)
    have h5 : dR (rs.map fun r j => r j + -(r ck) * unit ck j) (cs.eraseIdx k) = dR rs (cs.eraseIdx k) := dR_congr _ _ _ (by rw [List.length_map]) fun i x y hx hy j hj => by
      rw [List.getElem?_map, hy] at hx
      have ex : x = fun j => y j + -(y ck) * unit ck j := (Option.some.inj hx).symm
      rw [ex]
      show y j + -(y ck) * unit ck j = y j
      unfold unit
      rw [if_neg (fun z => hnd (by rw [← z]; exact hj))]
      grind
    have h6 : f (unit ck :: (cs.eraseIdx k).map unit) = sF k * f (cs.map unit) := by
      have := a.move (u := unit ck) ((cs.take k).map unit) [] ((cs.drop (k + 1)).map unit) (by rw [List.length_nil, List.length_map, List.length_map, List.length_take, List.length_drop]; omega)
      have e1 : (cs.eraseIdx k).map unit = (cs.take k).map unit ++ (cs.drop (k + 1)).map (unit (F := F)) := by rw [ee, List.map_append]
      have e2 : cs.map unit = [] ++ (cs.take k).map unit ++ unit ck :: (cs.drop (k + 1)).map (unit (F := F)) := by
        rw [List.nil_append]
        have : cs.map (unit (F := F)) = (cs.take k ++ ck :: cs.drop (k + 1)).map unit := by rw [← ep]
        rw [this, List.map_append]
        rfl
      rw [e1, e2]
      have e3 : ((cs.take k).map (unit (F := F))).length = k := by rw [List.length_map, List.length_take]; omega
      rw [e3] at this
      exact this
    have h4' : f (unit ck :: rs.map fun r j => r j + -(r ck) * unit ck j) = dR (rs.map fun r j => r j + -(r ck) * unit ck j) (cs.eraseIdx k) * f (unit ck :: (cs.eraseIdx k).map unit) := h4
    rw [h3, h4', h5, h6]
    grind
termination_by rs => rs.length
decreasing_by
  simp
theorem dC_units : ∀ (cs : List Nat), cs.Nodup → dC (cs.map (unit (F := F))) cs = 1
  | [], _ => rfl
  | c :: cs, h => by
    have hc := List.nodup_cons.mp h
    show SF (fun i => sF i * (((c :: cs).map (unit (F := F))).getD i zr) c * dC (((c :: cs).map (unit (F := F))).eraseIdx i) cs) ((c :: cs).map (unit (F := F))).length = 1
    rw [List.length_map, List.length_cons, SF_front]
    have e1 : SF (fun i => sF (i + 1) * (((c :: cs).map (unit (F := F))).getD (i + 1) zr) c * dC (((c :: cs).map (unit (F := F))).eraseIdx (i + 1)) cs) cs.length = 0 := SF_nul fun i hi => by
      have e2 : ((c :: cs).map (unit (F := F))).getD (i + 1) zr = unit cs[i] := by
        rw [List.getD_eq_getElem?_getD, List.getElem?_map, List.getElem?_cons_succ, List.getElem?_eq_getElem hi]
        rfl
      rw [e2]
      unfold unit
      rw [if_neg (fun z => hc.1 (by rw [z]; exact List.getElem_mem hi))]
      grind
    rw [e1]
    show sF 0 * unit c c * dC (cs.map unit) cs + 0 = 1
    rw [dC_units cs hc.2]
    unfold unit sF
    rw [if_pos rfl, if_pos rfl]
    grind
theorem dC_congr : ∀ (cs : List Nat) (rs ss : List (Row F)), rs.length = ss.length → (∀ (i : Nat) (r s : Row F), rs[i]? = some r → ss[i]? = some s → ∀ j ∈ cs, r j = s j) → dC rs cs = dC ss cs
  | [], _, _, _, _ => rfl
  | c :: cs, rs, ss, hl, h => by
    show SF _ rs.length = SF _ ss.length
    rw [← hl]
    refine SF_congr fun i hi => ?_
    have g1 : rs[i]? = some rs[i] := List.getElem?_eq_getElem hi
    have g2 : ss[i]? = some (ss[i]'(by omega)) := List.getElem?_eq_getElem _
    have e : (rs.getD i zr) c = (ss.getD i zr) c := by
      rw [List.getD_eq_getElem?_getD, List.getD_eq_getElem?_getD, g1, g2]
      exact h i _ _ g1 g2 c List.mem_cons_self
    rw [e, dC_congr cs (rs.eraseIdx i) (ss.eraseIdx i) (by rw [List.length_eraseIdx_of_lt hi, List.length_eraseIdx_of_lt (by omega), hl]) fun j r s hr hs x hx => by
      rw [List.getElem?_eraseIdx] at hr hs
      split at hr
      · rename_i hji
        rw [if_pos hji] at hs
        exact h j r s hr hs x (List.mem_cons_of_mem _ hx)
      · rename_i hji
        rw [if_neg hji] at hs
        exact h (j + 1) r s hr hs x (List.mem_cons_of_mem _ hx)]
/-- by the first column or by the first row -/
theorem dC_dR {rs : List (Row F)} {cs : List Nat} (hl : rs.length = cs.length) (hn : cs.Nodup) : dC rs cs = dR rs cs := by
  have key := alt_det (rs.map fun r j => if j ∈ cs then r j else 0) cs (fun rows => dC rows cs) (dC_alt cs) (by rw [List.length_map]; exact hl) hn (fun r hr j hj => by
    obtain ⟨s, _, rfl⟩ := List.mem_map.mp hr
    exact if_neg hj)
  have e1 : dC (rs.map fun r j => if j ∈ cs then r j else 0) cs = dC rs cs := dC_congr cs _ _ (by rw [List.length_map]) fun i x y hx hy j hj => by
    rw [List.getElem?_map, hy] at hx
    rw [← Option.some.inj hx]
    exact if_pos hj
  have e2 : dR (rs.map fun r j => if j ∈ cs then r j else 0) cs = dR rs cs := dR_congr _ _ cs (by rw [List.length_map]) fun i x y hx hy j hj => by
    rw [List.getElem?_map, hy] at hx
    rw [← Option.some.inj hx]
    exact if_pos hj
  rw [e1, e2, dC_units cs hn] at key
  rw [key]
  grind
/-- a row put through rows -/
def thr (B : List (Row F)) (r : Row F) : Row F := fun j => SF (fun i => r i * (B.getD i zr) j) B.length
/-- of a product the product -/
theorem dC_mul {A B : List (Row F)} {n : Nat} (hA : A.length = n) (hB : B.length = n) {cs : List Nat} (hc : cs.length = n) : dC (A.map (thr B)) cs = dC A (List.range n) * dC B cs := by
  have lin1 : ∀ u v : Row F, thr B (fun j => u j + v j) = fun j => thr B u j + thr B v j := fun u v => funext fun j => by
    show SF (fun i => (u i + v i) * (B.getD i zr) j) B.length = SF (fun i => u i * (B.getD i zr) j) B.length + SF (fun i => v i * (B.getD i zr) j) B.length
    rw [← SF_add]
    exact SF_congr fun i _ => by grind
  have lin2 : ∀ (c : F) (u : Row F), thr B (fun j => c * u j) = fun j => c * thr B u j := fun c u => funext fun j => by
    show SF (fun i => c * u i * (B.getD i zr) j) B.length = c * SF (fun i => u i * (B.getD i zr) j) B.length
    rw [← SF_mul]
    exact SF_congr fun i _ => by grind
  have a0 := dC_alt cs (F := F)
  rw [hc] at a0
  have a : Alt n fun rows => dC (rows.map (thr B)) cs := by
    refine ⟨fun pre u v post h => ?_, fun pre c u post h => ?_, fun pre u post h => ?_⟩
    · simp only [List.map_append, List.map_cons, lin1]
      exact a0.add _ _ _ _ (by rw [List.length_map, List.length_map]; exact h)
    · simp only [List.map_append, List.map_cons, lin2]
      exact a0.mul _ _ _ _ (by rw [List.length_map, List.length_map]; exact h)
    · simp only [List.map_append, List.map_cons]
      exact a0.alt _ _ _ (by rw [List.length_map, List.length_map]; exact h)
  have hnr : (List.range n).Nodup := List.nodup_range
  have hlr : (List.range n).length = n := List.length_range
  have key := alt_det (A.map fun r j => if j ∈ List.range n then r j else 0) (List.range n) (fun rows => dC (rows.map (thr B)) cs) (by rw [hlr]; exact a) (by rw [List.length_map, hlr]; exact hA) hnr (fun r hr j hj => by
    obtain ⟨s, _, rfl⟩ := List.mem_map.mp hr
    exact if_neg hj)
  have e1 : (A.map fun r j => if j ∈ List.range n then r j else 0).map (thr B) = A.map (thr B) := by
    rw [List.map_map]
    refine List.map_congr_left fun r _ => funext fun j => ?_
    show SF (fun i => (if i ∈ List.range n then r i else 0) * (B.getD i zr) j) B.length = SF (fun i => r i * (B.getD i zr) j) B.length
    exact SF_congr fun i hi => by rw [if_pos (List.mem_range.mpr (by omega))]
  have e2 : dR (A.map fun r j => if j ∈ List.range n then r j else 0) (List.range n) = dC A (List.range n) := by
    rw [dC_dR (by rw [hlr]; exact hA) hnr]
    exact dR_congr _ _ _ (by rw [List.length_map]) fun i x y hx hy j hj => by
      rw [List.getElem?_map, hy] at hx
      rw [← Option.some.inj hx]
      exact if_pos hj
  have e3 : ((List.range n).map (unit (F := F))).map (thr B) = B := by
    rw [List.map_map]
    refine List.ext_getElem? fun i => ?_
    rw [List.getElem?_map]
    by_cases hi : i < n
    · rw [List.getElem?_range hi, List.getElem?_eq_getElem (show i < B.length by omega)]
      show some (thr B (unit i)) = some B[i]
      congr 1
      funext j
      show SF (fun k => unit i k * (B.getD k zr) j) B.length = B[i] j
      have hs := SF_split (fun k => unit (F := F) i k * (B.getD k zr) j) i (B.length - i - 1)
      rw [show i + 1 + (B.length - i - 1) = B.length by omega] at hs
      rw [hs, SF_nul (f := fun k => unit i k * (B.getD k zr) j) (n := i) fun k hk => by
        show unit i k * _ = 0
        unfold unit
        rw [if_neg (by omega)]
        grind, SF_nul (f := fun k => unit i (i + 1 + k) * (B.getD (i + 1 + k) zr) j) fun k hk => by
        show unit i (i + 1 + k) * _ = 0
        unfold unit
        rw [if_neg (by omega)]
        grind]
      show 0 + unit i i * (B.getD i zr) j + 0 = _
      rw [List.getD_eq_getElem?_getD, List.getElem?_eq_getElem (show i < B.length by omega)]
      show 0 + unit i i * B[i] j + 0 = _
      unfold unit
      rw [if_pos rfl]
      grind
    · rw [List.getElem?_eq_none (by rw [hlr]; omega), List.getElem?_eq_none (by omega)]
      rfl
  rw [e1, e2, e3] at key
  exact key
/-- of the rows turned the same -/
theorem dR_turn : ∀ (rs : List (Row F)) (cs : List Nat) (ts : List (Row F)) (is : List Nat), ts.length = cs.length → is.length = rs.length → (∀ (i k a c : Nat) (r t : Row F), rs[i]? = some r → is[i]? = some a → cs[k]? = some c → ts[k]? = some t → r c = t a) → dR rs cs = dC ts is
  | [], cs, ts, is, _, hi, _ => by
    have : is = [] := List.length_eq_zero_iff.mp hi
    subst this
    rfl
  | r :: rs, cs, ts, [], _, hi, _ => by cases hi
  | r :: rs, cs, ts, a :: is, ht, hi, h => by
    show SF (fun k => sF k * r (cs.getD k 0) * dR rs (cs.eraseIdx k)) cs.length = SF (fun k => sF k * (ts.getD k zr) a * dC (ts.eraseIdx k) is) ts.length
    rw [ht]
    refine SF_congr fun k hk => ?_
    have g1 : cs[k]? = some cs[k] := List.getElem?_eq_getElem hk
    have g2 : ts[k]? = some (ts[k]'(by omega)) := List.getElem?_eq_getElem _
    have e1 : r (cs.getD k 0) = (ts.getD k zr) a := by
      rw [List.getD_eq_getElem?_getD, List.getD_eq_getElem?_getD, g1, g2]
      exact h 0 k a _ r _ rfl rfl g1 g2
    rw [e1, dR_turn rs (cs.eraseIdx k) (ts.eraseIdx k) is (by rw [List.length_eraseIdx_of_lt hk, List.length_eraseIdx_of_lt (by omega), ht]) (Nat.succ.inj hi) fun i l b c r' t' hr' hb hc ht' => by
      rw [List.getElem?_eraseIdx] at hc ht'
      split at hc
      · rename_i hlk
        rw [if_pos hlk] at ht'
        exact h (i + 1) l b c r' t' hr' hb hc ht'
      · rename_i hlk
        rw [if_neg hlk] at ht'
        exact h (i + 1) (l + 1) b c r' t' hr' hb hc ht']
end Fr

namespace Fm
open Lean.Grind PySem L2 Fr Fd
/-! ### least rows: the program's steps over whole numbers, in the field -/
def fr {g : Int} {F : Type} [CommRing F] (V : GV g F) (r : List Int) : Row F := fun j => V.i (gt r j)
def er {g : Int} {F : Type} [CommRing F] (V : GV g F) (r : List (Int × Int)) : Row F := fun j => V.e (r.getD j (0, 1))
/-- the greatest common divisor of all -/
def gcdL (r : List Int) : Int := r.foldl (fun s x => (Int.gcd s x : Int)) 0
def plainF (g : Int) (r : List Int) : List Int := if g ≠ 0 then r.map (fun x => x.fmod g) else if gcdL r = 0 then r else r.map (fun x => x.fdiv (gcdL r))
def clearF (g : Int) (at_ : Nat) (head row : List Int) : List Int := if gt row at_ = 0 then row else plainF g (List.zipWith (fun x y => x * gt head at_ - y * gt row at_) row head)
/-- whole numbers of the ground -/
def InG (g : Int) (r : List Int) : Prop := g ≠ 0 → ∀ x, 0 ≤ gt r x ∧ gt r x < g
theorem gcd_fold : ∀ (r : List Int) (s : Int), (r.foldl (fun s x => (Int.gcd s x : Int)) s ∣ s) ∧ (∀ x ∈ r, r.foldl (fun s x => (Int.gcd s x : Int)) s ∣ x) ∧ ∀ d, d ∣ s → (∀ x ∈ r, d ∣ x) → d ∣ r.foldl (fun s x => (Int.gcd s x : Int)) s
  | [], s => ⟨Int.dvd_refl s, fun x hx => (by cases hx), fun d h _ => h⟩
  | a :: r, s => by
    obtain ⟨h1, h2, h3⟩ := gcd_fold r (Int.gcd s a : Int)
    refine ⟨Int.dvd_trans h1 (Int.gcd_dvd_left ..), fun x hx => ?_, fun d hd hx => h3 d (Int.dvd_coe_gcd hd (hx a (List.mem_cons_self ..))) fun x m => hx x (List.mem_cons_of_mem _ m)⟩
    rcases List.mem_cons.mp hx with rfl | m
    · exact Int.dvd_trans h1 (Int.gcd_dvd_right ..)
    · exact h2 x m
theorem gcdL_dvd {r : List Int} : (∀ x ∈ r, gcdL r ∣ x) ∧ ∀ d, (∀ x ∈ r, d ∣ x) → d ∣ gcdL r := ⟨(gcd_fold r 0).2.1, fun d h => (gcd_fold r 0).2.2 d (Int.dvd_zero d) h⟩
theorem gt_map {f : Int → Int} {r : List Int} (h0 : f 0 = 0) (x : Nat) : gt (r.map f) x = f (gt r x) := by
  unfold gt
  rw [List.getD_eq_getElem?_getD, List.getD_eq_getElem?_getD, List.getElem?_map]
  cases r[x]? with
  | none => exact h0.symm
  | some y => rfl
theorem gt_mem {r : List Int} {x : Nat} (h : gt r x ≠ 0) : gt r x ∈ r := by
  unfold gt at h ⊢
  rw [List.getD_eq_getElem?_getD] at h ⊢
  cases e : r[x]? with
  | none => rw [e] at h; exact absurd rfl h
  | some y => exact List.mem_of_getElem? e
theorem dvd_gt {r : List Int} {d : Int} (h : ∀ x ∈ r, d ∣ x) (x : Nat) : d ∣ gt r x := by
  by_cases e : gt r x = 0
  · rw [e]; exact Int.dvd_zero d
  · exact h _ (gt_mem e)
theorem gcd0_nul {r : List Int} (h : gcdL r = 0) : Nul r := fun x => by
  have := dvd_gt gcdL_dvd.1 x (r := r)
  rw [h] at this
  exact Int.zero_dvd.mp this
/-- a plain row is the row over a number -/
theorem plain_zero {r : List Int} : ∃ s : Int, s ≠ 0 ∧ (∀ x, s * gt (plainF 0 r) x = gt r x) ∧ (Prim (plainF 0 r) ∨ Nul (plainF 0 r)) := by
  unfold plainF
  rw [if_neg (by decide)]
  by_cases h : gcdL r = 0
  · rw [if_pos h]
    exact ⟨1, by decide, fun x => Int.one_mul _, .inr (gcd0_nul h)⟩
  · rw [if_neg h]
    have e : ∀ x, gcdL r * gt (r.map fun x => x.fdiv (gcdL r)) x = gt r x := fun x => by
      rw [gt_map (by rw [Int.zero_fdiv])]
      obtain ⟨q, hq⟩ := dvd_gt gcdL_dvd.1 x (r := r)
      rw [hq, Int.mul_fdiv_cancel_left _ h]
    refine ⟨gcdL r, h, e, .inl fun d hd => ?_⟩
    have h1 : gcdL r * d ∣ gcdL r := gcdL_dvd.2 _ fun x hx => by
      obtain ⟨i, hi, rfl⟩ := List.mem_iff_getElem.mp hx
      have h2 := e i
      have h3 : gt r i = r[i] := by unfold gt; rw [List.getD_eq_getElem?_getD, List.getElem?_eq_getElem hi]; rfl
      rw [h3] at h2
      rw [← h2]
      exact Int.mul_dvd_mul_left _ (hd i)
    obtain ⟨q, hq⟩ := h1
    have h4 : 1 = d * q := by
      have : gcdL r * 1 = gcdL r * (d * q) := by rw [Int.mul_one, ← Int.mul_assoc]; exact hq
      exact Int.eq_of_mul_eq_mul_left h this
    have h5 := congrArg Int.natAbs h4
    rw [Int.natAbs_mul] at h5
    exact Nat.dvd_one.mp ⟨q.natAbs, h5⟩
theorem gt_zip {r h : List Int} (hl : r.length = h.length) (a b : Int) (x : Nat) : gt (List.zipWith (fun x y => x * a - y * b) r h) x = gt r x * a - gt h x * b := by
  unfold gt
  rw [List.getD_eq_getElem?_getD, List.getD_eq_getElem?_getD, List.getD_eq_getElem?_getD, List.getElem?_zipWith]
  by_cases hx : x < r.length
  · rw [List.getElem?_eq_getElem hx, List.getElem?_eq_getElem (by omega)]
    rfl
  · rw [List.getElem?_eq_none (by omega), List.getElem?_eq_none (by omega)]
    show (0 : Int) = 0 * a - 0 * b
    omega
/-- clearing, for the fractions -/
theorem clear_zero {at_ : Nat} {head r : List Int} (hl : r.length = head.length) (hne : gt head at_ ≠ 0) (hp : Prim r ∨ Nul r) : Clr (gt head at_) (gt r at_) head r (clearF 0 at_ head r) ∧ (Prim (clearF 0 at_ head r) ∨ Nul (clearF 0 at_ head r)) := by
  unfold clearF
  by_cases h : gt r at_ = 0
  · rw [if_pos h]
    refine ⟨⟨gt head at_, hne, fun x => ?_⟩, hp⟩
    rw [h]
    omega
  · rw [if_neg h]
    obtain ⟨s, hs, e, hpr⟩ := plain_zero (r := List.zipWith (fun x y => x * gt head at_ - y * gt r at_) r head)
    refine ⟨⟨s, hs, fun x => ?_⟩, hpr⟩
    rw [e x, gt_zip hl]
    grind
theorem plain_len (g : Int) (r : List Int) : (plainF g r).length = r.length := by
  unfold plainF
  split
  · rw [List.length_map]
  · split
    · rfl
    · rw [List.length_map]
theorem clear_len {g : Int} {at_ : Nat} {head r : List Int} (hl : r.length = head.length) : (clearF g at_ head r).length = r.length := by
  unfold clearF
  split
  · rfl
  · rw [plain_len, List.length_zipWith]
    omega
section
variable {g : Int} {F : Type} [CommRing F] (V : GV g F)
theorem GV.imod (hg : g ≠ 0) (x : Int) : V.i (x.fmod g) = V.i x := by
  have e : x = g * x.fdiv g + x.fmod g := (Int.mul_fdiv_add_fmod x g).symm
  have h := V.iadd (g * x.fdiv g) (x.fmod g)
  rw [← e, V.imul, V.gz hg] at h
  grind
theorem GV.iz {r : List Int} (hr : InG g r) {x : Nat} (h : V.i (gt r x) = 0) : gt r x = 0 := by
  by_cases hg : g = 0
  · exact (V.ker _ h).1 hg
  · have h1 := (V.ker _ h).2 hg
    obtain ⟨h2, h3⟩ := hr hg x
    rw [fmod_pos _ (by omega), Int.emod_eq_of_lt h2 h3] at h1
    exact h1
theorem plain_ing (hg : g = 0 ∨ Gr5 g) (r : List Int) : InG g (plainF g r) := fun z x => by
  have g0 : 0 < g := by
    have h5 := hg.resolve_left z
    unfold Gr5 at h5
    omega
  unfold plainF
  rw [if_pos z, gt_map (Int.zero_fmod g), fmod_pos _ g0]
  exact ⟨Int.emod_nonneg _ (by omega), Int.emod_lt_of_pos _ g0⟩
/-- a plain row, in the field -/
theorem GV.plain (r : List Int) : ∃ s : F, s ≠ 0 ∧ ∀ x, s * V.i (gt (plainF g r) x) = V.i (gt r x) := by
  by_cases hg : g = 0
  · subst hg
    obtain ⟨s, hs, e, _⟩ := plain_zero (r := r)
    refine ⟨V.i s, V.ine hs fun z => absurd rfl z, fun x => ?_⟩
    rw [← V.imul, e x]
  · refine ⟨1, V.ne, fun x => ?_⟩
    unfold plainF
    rw [if_pos hg, gt_map (Int.zero_fmod g), V.imod hg]
    grind
theorem GV.clear {at_ : Nat} {head r : List Int} (hh : InG g head) (hl : r.length = head.length) (hne : gt head at_ ≠ 0) : ∃ s : F, s ≠ 0 ∧ ∀ x, s * V.i (gt (clearF g at_ head r) x) = V.i (gt head at_) * V.i (gt r x) - V.i (gt r at_) * V.i (gt head x) := by
  unfold clearF
  by_cases h : gt r at_ = 0
  · rw [if_pos h]
    refine ⟨V.i (gt head at_), fun z => hne (V.iz hh z), fun x => ?_⟩
    rw [h, V.i0]
    grind
  · rw [if_neg h]
    obtain ⟨s, hs, e⟩ := V.plain (List.zipWith (fun x y => x * gt head at_ - y * gt r at_) r head)
    refine ⟨s, hs, fun x => ?_⟩
    rw [e x, gt_zip hl, V.isub, V.imul, V.imul]
    grind
theorem clear_ing (hg : g = 0 ∨ Gr5 g) {at_ : Nat} {head r : List Int} (hr : InG g r) : InG g (clearF g at_ head r) := by
  unfold clearF
  split
  · exact hr
  · exact plain_ing hg _
/-- the loop's state behind the columns ahead of at_: h the heads -/
structure Fst (at_ n : Nat) (orig rows : List (List Int)) (h : List Nat) : Prop where
  lr : h.length ≤ rows.length
  hd : ∀ p ∈ h, p < at_
  piv : ∃ A, Rr A h ∧ ∀ (i : Nat) (a : Row F) (r : List Int) (p : Nat), A[i]? = some a → rows[i]? = some r → h[i]? = some p → V.i (gt r p) ≠ 0 ∧ ∀ j, V.i (gt r j) = V.i (gt r p) * a j
  non : ∀ (i : Nat) (r : List Int), h.length ≤ i → rows[i]? = some r → ∀ j, j < at_ → V.i (gt r j) = 0
  sp1 : ∀ r ∈ rows, InS (orig.map (fr V)) (fr V r)
  sp2 : ∀ r ∈ orig, InS (rows.map (fr V)) (fr V r)
  ing : ∀ r ∈ rows, InG g r
  len : ∀ r ∈ rows, r.length = n
theorem rr_nil : Rr ([] : List (Row F)) [] := ⟨rfl, fun i k p q h => by simp at h, fun i a p h => by simp at h, fun i k a p h => by simp at h, fun i a p j h => by simp at h⟩
theorem Fst.start {n : Nat} {rows : List (List Int)} (hi : ∀ r ∈ rows, InG g r) (hl : ∀ r ∈ rows, r.length = n) : Fst V 0 n rows rows [] :=
  ⟨Nat.zero_le _, fun p hp => (by cases hp), ⟨[], rr_nil, fun i a r p h => by simp at h⟩, fun i r _ _ j hj => absurd hj (Nat.not_lt_zero _), fun r hr => InS.mem (List.mem_map.mpr ⟨r, hr, rfl⟩), fun r hr => InS.mem (List.mem_map.mpr ⟨r, hr, rfl⟩), hi, hl⟩
variable {V}
/-- a column without a head -/
theorem Fst.skip {at_ n : Nat} {orig rows : List (List Int)} {h : List Nat} (f : Fst V at_ n orig rows h) (hz : ∀ (i : Nat) (r : List Int), h.length ≤ i → rows[i]? = some r → gt r at_ = 0) : Fst V (at_ + 1) n orig rows h :=
  ⟨f.lr, fun p hp => Nat.lt_succ_of_lt (f.hd p hp), f.piv, fun i r hi hr j hj => by
    by_cases e : j = at_
    · rw [e, hz i r hi hr, V.i0]
    · exact f.non i r hi hr j (by omega), f.sp1, f.sp2, f.ing, f.len⟩
/-- the rows behind a column with its head at place -/
def stepF (g : Int) (at_ many place : Nat) (head : List Int) (rows : List (List Int)) : List (List Int) :=
  ((rows.eraseIdx place).map (clearF g at_ head)).take many ++ [head] ++ ((rows.eraseIdx place).map (clearF g at_ head)).drop many
theorem step_len {at_ many place : Nat} {head : List Int} {rows : List (List Int)} (hp : place < rows.length) (hm : many ≤ place) : (stepF g at_ many place head rows).length = rows.length := by
  unfold stepF
  rw [List.length_append, List.length_append, List.length_take, List.length_drop, List.length_map, List.length_eraseIdx_of_lt hp]
  show min many (rows.length - 1) + 1 + (rows.length - 1 - many) = _
  omega
theorem step_piv {at_ many place i : Nat} {head r' : List Int} {rows : List (List Int)} (hp : place < rows.length) (hm : many ≤ place) (hi : i < many) (e : (stepF g at_ many place head rows)[i]? = some r') : ∃ r, rows[i]? = some r ∧ r' = clearF g at_ head r := by
  unfold stepF at e
  have l1 : i < (((rows.eraseIdx place).map (clearF g at_ head)).take many).length := by
    rw [List.length_take, List.length_map, List.length_eraseIdx_of_lt hp]
    omega
  rw [List.append_assoc, List.getElem?_append_left l1, List.getElem?_take, if_pos hi, List.getElem?_map, List.getElem?_eraseIdx, if_pos (by omega)] at e
  cases er : rows[i]? with
  | none => rw [er] at e; cases e
  | some r =>
    rw [er] at e
    exact ⟨r, rfl, (Option.some.inj e).symm⟩
theorem step_mid {at_ many place : Nat} {head : List Int} {rows : List (List Int)} (hp : place < rows.length) (hm : many ≤ place) : (stepF g at_ many place head rows)[many]? = some head := by
  unfold stepF
  have l1 : (((rows.eraseIdx place).map (clearF g at_ head)).take many).length = many := by
    rw [List.length_take, List.length_map, List.length_eraseIdx_of_lt hp]
    omega
  rw [List.append_assoc, List.getElem?_append_right (by omega), l1, Nat.sub_self]
  rfl
theorem step_non {at_ many place i : Nat} {head r' : List Int} {rows : List (List Int)} (hp : place < rows.length) (hm : many ≤ place) (hi : many < i) (e : (stepF g at_ many place head rows)[i]? = some r') : ∃ r, rows[skip place (i - 1)]? = some r ∧ r' = clearF g at_ head r := by
  unfold stepF at e
  have l1 : (((rows.eraseIdx place).map (clearF g at_ head)).take many).length = many := by
    rw [List.length_take, List.length_map, List.length_eraseIdx_of_lt hp]
    omega
  rw [List.append_assoc, List.getElem?_append_right (by omega), l1, List.getElem?_append_right (by show 1 ≤ _; omega)] at e
  rw [List.getElem?_drop, List.getElem?_map, List.getElem?_eraseIdx, show many + (i - many - [head].length) = i - 1 by show many + (i - many - 1) = i - 1; omega] at e
  have e2 : (if i - 1 < place then rows[i - 1]? else rows[i - 1 + 1]?) = rows[skip place (i - 1)]? := by
    unfold skip
    split <;> rfl
  rw [e2] at e
  cases er : rows[skip place (i - 1)]? with
  | none => rw [er] at e; cases e
  | some r =>
    rw [er] at e
    exact ⟨r, rfl, (Option.some.inj e).symm⟩
/-- every row but the head is there, cleared -/
theorem step_all {at_ many place k : Nat} {head r : List Int} {rows : List (List Int)} (hp : place < rows.length) (hm : many ≤ place) (hk : k ≠ place) (e : rows[k]? = some r) : clearF g at_ head r ∈ stepF g at_ many place head rows := by
  have h1 : clearF g at_ head r ∈ (rows.eraseIdx place).map (clearF g at_ head) := List.mem_map.mpr ⟨r, List.mem_eraseIdx_iff_getElem?.mpr ⟨k, hk, e⟩, rfl⟩
  unfold stepF
  rw [← List.take_append_drop many ((rows.eraseIdx place).map (clearF g at_ head))] at h1
  rcases List.mem_append.mp h1 with h | h
  · exact List.mem_append_left _ (List.mem_append_left _ h)
  · exact List.mem_append_right _ h
theorem step_mem {at_ many place : Nat} {head r' : List Int} {rows : List (List Int)} (h : r' ∈ stepF g at_ many place head rows) : r' = head ∨ ∃ r ∈ rows, r' = clearF g at_ head r := by
  unfold stepF at h
  rcases List.mem_append.mp h with h | h
  · rcases List.mem_append.mp h with h | h
    · obtain ⟨r, hr, rfl⟩ := List.mem_map.mp (List.mem_of_mem_take h)
      exact .inr ⟨r, List.mem_of_mem_eraseIdx hr, rfl⟩
    · exact .inl (List.mem_singleton.mp h)
  · obtain ⟨r, hr, rfl⟩ := List.mem_map.mp (List.mem_of_mem_drop h)
    exact .inr ⟨r, List.mem_of_mem_eraseIdx hr, rfl⟩
theorem Fst.step (hg : g = 0 ∨ Gr5 g) {at_ n place : Nat} {orig rows : List (List Int)} {h : List Nat} {head : List Int} (f : Fst V at_ n orig rows h) (hm : h.length ≤ place) (hh : rows[place]? = some head) (hne : gt head at_ ≠ 0) : Fst V (at_ + 1) n orig (stepF g at_ h.length place head rows) (h ++ [at_]) := by
  have hp := (List.getElem?_eq_some_iff.mp hh).1
  have hmem := List.mem_of_getElem? hh
  have hln := f.len head hmem
  have ihead := f.ing head hmem
  have vne : V.i (gt head at_) ≠ 0 := fun z => hne (V.iz ihead z)
  obtain ⟨y, hy⟩ := V.inv _ vne
  have hz0 : ∀ j, j < at_ → V.i (gt head j) = 0 := f.non place head hm hh
  have cl : ∀ r ∈ rows, ∃ s : F, s ≠ 0 ∧ ∀ x, s * V.i (gt (clearF g at_ head r) x) = V.i (gt head at_) * V.i (gt r x) - V.i (gt r at_) * V.i (gt head x) := fun r hr => V.clear ihead (by rw [f.len r hr, hln]) hne
  obtain ⟨A, hA, hAr⟩ := f.piv
  have hb1 : (fun j => y * V.i (gt head j) : Row F) at_ = 1 := by
    show y * V.i (gt head at_) = 1
    grind
  have hR := hA.step (k := at_) (b := fun j => y * V.i (gt head j)) f.hd hb1 (fun j hj => by rw [hz0 j hj]; grind)
  have hspan : ∀ r ∈ rows, InS (rows.map (fr V)) (fr V r) := fun r hr => InS.mem (List.mem_map.mpr ⟨r, hr, rfl⟩)
  refine ⟨?_, fun p hp' => ?_, ⟨_, hR, fun i a r' p ha hr hpi => ?_⟩, fun i r' hi hr j hj => ?_, fun r' hr => ?_, fun r hr => ?_, fun r' hr => ?_, fun r' hr => ?_⟩
  · rw [step_len hp hm, List.length_append]
    show h.length + 1 ≤ rows.length
    omega
  · rcases List.mem_append.mp hp' with z | z
    · exact Nat.lt_succ_of_lt (f.hd p z)
    · rw [List.mem_singleton.mp z]
      exact Nat.lt_succ_self _
  · by_cases hi : i < h.length
    · rw [List.getElem?_append_left (by rw [List.length_map, hA.len]; exact hi), List.getElem?_map] at ha
      rw [List.getElem?_append_left hi] at hpi
      obtain ⟨r, er, rfl⟩ := step_piv hp hm hi hr
      cases ea : A[i]? with
      | none => rw [ea] at ha; cases ha
      | some a0 =>
        rw [ea] at ha
        have e0 : a = clr at_ (fun j => y * V.i (gt head j)) a0 := (Option.some.inj ha).symm
        obtain ⟨hn, hx⟩ := hAr i a0 r p ea er hpi
        obtain ⟨s, hs, e⟩ := cl r (List.mem_of_getElem? er)
        have hpz := hz0 p (f.hd p (List.mem_of_getElem? hpi))
        have ep := e p
        rw [hpz] at ep
        have hsp : s * V.i (gt (clearF g at_ head r) p) = V.i (gt head at_) * V.i (gt r p) := by grind
        refine ⟨fun z => ?_, fun j => ?_⟩
        · rw [z] at hsp
          have h0 : V.i (gt head at_) * V.i (gt r p) = 0 := by grind
          exact hn (V.dom h0 vne)
        · refine V.cancel (z := s) ?_ hs
          have ej := e j
          rw [hx j, hx at_] at ej
          rw [e0]
          show V.i (gt (clearF g at_ head r) j) * s = V.i (gt (clearF g at_ head r) p) * (a0 j + -(a0 at_) * (y * V.i (gt head j))) * s
          have h1 : V.i (gt (clearF g at_ head r) j) * s = V.i (gt head at_) * (V.i (gt r p) * a0 j) - V.i (gt r p) * a0 at_ * V.i (gt head j) := by
            rw [← ej]
            grind
          have h2 : V.i (gt (clearF g at_ head r) p) * (a0 j + -(a0 at_) * (y * V.i (gt head j))) * s = V.i (gt head at_) * V.i (gt r p) * (a0 j + -(a0 at_) * (y * V.i (gt head j))) := by
            rw [← hsp]
            grind
          rw [h1, h2]
          grind
    · have hlen : (A.map (clr at_ (fun j => y * V.i (gt head j)))).length = h.length := by rw [List.length_map, hA.len]
      rw [List.getElem?_append_right (by omega), hlen] at ha
      rw [List.getElem?_append_right (by omega)] at hpi
      cases hd : i - h.length with
      | succ m =>
        rw [hd] at hpi
        cases hpi
      | zero =>
        rw [hd] at ha hpi
        have ei : i = h.length := by omega
        subst ei
        rw [step_mid hp hm] at hr
        have e1 : head = r' := Option.some.inj hr
        have e2 : at_ = p := Option.some.inj hpi
        have e3 : (fun j => y * V.i (gt head j)) = a := Option.some.inj ha
        subst e1 e2 e3
        refine ⟨vne, fun j => ?_⟩
        show V.i (gt head j) = V.i (gt head at_) * (y * V.i (gt head j))
        grind
  · have hi' : h.length < i := by
      rw [List.length_append] at hi
      exact hi
    obtain ⟨r, er, rfl⟩ := step_non hp hm hi' hr
    obtain ⟨s, hs, e⟩ := cl r (List.mem_of_getElem? er)
    refine V.dom (x := s) ?_ hs
    rw [e j]
    by_cases ej : j = at_
    · subst ej
      grind
    · rw [f.non _ r (by unfold Fd.skip; split <;> omega) er j (by omega), hz0 j (by omega)]
      grind
  · rcases step_mem hr with rfl | ⟨r, hr', rfl⟩
    · exact f.sp1 _ hmem
    · obtain ⟨s, hs, e⟩ := cl r hr'
      obtain ⟨z, hz⟩ := V.inv s hs
      have s1 := InS.spc (orig.map (fr V))
      have e2 : fr V (clearF g at_ head r) = fun j => z * (V.i (gt head at_) * fr V r j + (-V.i (gt r at_)) * fr V head j) := by
        funext j
        show V.i (gt (clearF g at_ head r) j) = z * (V.i (gt head at_) * V.i (gt r j) + (-V.i (gt r at_)) * V.i (gt head j))
        have := e j
        grind
      rw [e2]
      exact s1.mul z _ (s1.add _ _ (s1.mul _ _ (f.sp1 r hr')) (s1.mul _ _ (f.sp1 head hmem)))
  · refine (f.sp2 r hr).trans fun u hu => ?_
    obtain ⟨r0, hr0, rfl⟩ := List.mem_map.mp hu
    obtain ⟨k, hk⟩ := List.getElem?_of_mem hr0
    have hhead : InS ((stepF g at_ h.length place head rows).map (fr V)) (fr V head) := InS.mem (List.mem_map.mpr ⟨head, List.mem_of_getElem? (step_mid hp hm), rfl⟩)
    by_cases ek : k = place
    · subst ek
      have : r0 = head := Option.some.inj (hk.symm.trans hh)
      rw [this]
      exact hhead
    · have hcl : InS ((stepF g at_ h.length place head rows).map (fr V)) (fr V (clearF g at_ head r0)) := InS.mem (List.mem_map.mpr ⟨_, step_all hp hm ek hk, rfl⟩)
      obtain ⟨s, hs, e⟩ := cl r0 hr0
      have s1 := InS.spc ((stepF g at_ h.length place head rows).map (fr V))
      have e2 : fr V r0 = fun j => y * (s * fr V (clearF g at_ head r0) j + V.i (gt r0 at_) * fr V head j) := by
        funext j
        show V.i (gt r0 j) = y * (s * V.i (gt (clearF g at_ head r0) j) + V.i (gt r0 at_) * V.i (gt head j))
        have := e j
        grind
      rw [e2]
      exact s1.mul y _ (s1.add _ _ (s1.mul _ _ hcl) (s1.mul _ _ hhead))
  · rcases step_mem hr with rfl | ⟨r, hr', rfl⟩
    · exact ihead
    · exact clear_ing hg (f.ing r hr')
  · rcases step_mem hr with rfl | ⟨r, hr', rfl⟩
    · exact hln
    · rw [clear_len (by rw [f.len r hr', hln]), f.len r hr']
end
/-- one head more, for the sizes -/
theorem _root_.Fd.Sz.step {A n at_ place : Nat} {P O : List (List Int)} {c : List Nat} {rows : List (List Int)} {head : List Int} (z : Sz A n P O c rows) (hm : P.length ≤ place) (hh : rows[place]? = some head) (hne : gt head at_ ≠ 0) (hl : ∀ r ∈ rows, r.length = head.length) :
    ∃ o O', Sz A n (o :: P) O' (at_ :: c) (stepF 0 at_ P.length place head rows) := by
  have hp := (List.getElem?_eq_some_iff.mp hh).1
  have hOl : place - P.length < O.length := by have := z.lr; omega
  have hO : O[place - P.length]? = some (O[place - P.length]'hOl) := List.getElem?_eq_getElem _
  have hnon := z.non (place - P.length) _ head hO (by rw [show P.length + (place - P.length) = place by omega]; exact hh)
  have cl : ∀ r ∈ rows, Clr (gt head at_) (gt r at_) head r (clearF 0 at_ head r) ∧ (Prim (clearF 0 at_ head r) ∨ Nul (clearF 0 at_ head r)) := fun r hr => clear_zero (hl r hr) hne (z.pri r hr)
  refine ⟨O[place - P.length]'hOl, O.eraseIdx (place - P.length), by rw [List.length_cons, List.length_cons, z.lc], ?_, hnon.det z.lc z.det hne, fun i x => ?_, fun i x => ?_, fun i r' hi hr => ?_, fun i o r' ho hr => ?_, fun r' hr => ?_⟩
  · rw [step_len hp hm, List.length_cons, List.length_eraseIdx_of_lt hOl]
    have := z.lr
    omega
  · cases i with
    | zero =>
      rw [ent_zero]
      have := z.bO (place - P.length) x
      have e3 : O.getD (place - P.length) [] = O[place - P.length]'hOl := by rw [List.getD_eq_getElem?_getD, hO]; rfl
      unfold ent at this
      rw [e3] at this
      exact this
    | succ i =>
      rw [ent_succ]
      exact z.bP i x
  · rw [ent_erase]
    exact z.bO _ x
  · rw [List.length_cons] at hi ⊢
    by_cases hi2 : i < P.length
    · obtain ⟨r, er, rfl⟩ := step_piv hp hm hi2 hr
      have := (z.piv i r hi2 er).clear hnon hne (cl r (List.mem_of_getElem? er)).1
      rw [show P.length + 1 - 1 - i = P.length - 1 - i + 1 by omega]
      exact this
    · have ei : i = P.length := by omega
      subst ei
      rw [step_mid hp hm] at hr
      cases hr
      rw [show P.length + 1 - 1 - P.length = 0 by omega]
      exact hnon.head hne
  · rw [List.length_cons, show P.length + 1 + i = P.length + i + 1 by omega] at hr
    obtain ⟨r, er, rfl⟩ := step_non hp hm (by omega) hr
    rw [show P.length + i + 1 - 1 = P.length + i by omega] at er
    refine NonP.clear ?_ hnon hne (cl r (List.mem_of_getElem? er)).1
    rw [List.getElem?_eraseIdx] at ho
    by_cases hi2 : i < place - P.length
    · rw [if_pos hi2] at ho
      refine z.non i o r ho ?_
      unfold skip at er
      rw [if_pos (by omega)] at er
      exact er
    · rw [if_neg hi2] at ho
      refine z.non (i + 1) o r ho ?_
      unfold skip at er
      rw [if_neg (by omega)] at er
      exact er
  · rcases step_mem hr with rfl | ⟨r, hr', rfl⟩
    · exact z.pri _ (List.mem_of_getElem? hh)
    · exact (cl r hr').2
theorem _root_.Fd.Sz.start {A n : Nat} {rows : List (List Int)} (hb : ∀ r ∈ rows, ∀ x, (gt r x).natAbs ≤ A) (hp : ∀ r ∈ rows, Prim r ∨ Nul r) : Sz A n [] rows [] rows := by
  refine ⟨rfl, by rw [List.length_nil, Nat.zero_add], by show (1 : Int) ≠ 0; decide, fun i x => ?_, fun i x => ?_, fun i r hi => absurd hi (Nat.not_lt_zero _), fun i o r ho hr => ?_, hp⟩
  · show (gt (([] : List (List Int)).getD i []) x).natAbs ≤ A
    have : ([] : List (List Int)).getD i [] = [] := by simp
    rw [this]
    exact Nat.zero_le _
  · show (gt (rows.getD i []) x).natAbs ≤ A
    cases e : rows[i]? with
    | none =>
      have e2 : rows.getD i [] = [] := by rw [List.getD_eq_getElem?_getD, e]; rfl
      rw [e2]
      exact Nat.zero_le _
    | some r =>
      have e2 : rows.getD i [] = r := by rw [List.getD_eq_getElem?_getD, e]; rfl
      rw [e2]
      exact hb r (List.mem_of_getElem? e) x
  · rw [List.length_nil, Nat.zero_add] at hr
    have e : o = r := Option.some.inj (ho.symm.trans hr)
    subst e
    refine ⟨1, 1, fun _ => 0, by decide, by decide, fun x => ?_, fun k hk => by cases hk⟩
    show 1 * gt o x = 1 * gt o x + 0
    omega
end Fm

namespace Fm
open Lean.Grind PySem L2 Fr Fd
/-! ### least rows as numbers -/
def hdF (r : List Int) : Int := ((r.filter fun x => decide (x ≠ 0)).head?).getD 0
def headF (g : Int) (r : List Int) : List (Int × Int) := r.map fun x => lowF g x (hdF r)
theorem hd_at : ∀ {r : List Int} {p : Nat}, (∀ j, j < p → gt r j = 0) → gt r p ≠ 0 → hdF r = gt r p
  | [], p, _, h => absurd (by unfold gt; simp) h
  | a :: r, 0, _, h => by
    have ha : a ≠ 0 := h
    unfold hdF
    rw [List.filter_cons, if_pos (decide_eq_true ha)]
    rfl
  | a :: r, p + 1, h0, h => by
    have ha : a = 0 := h0 0 (Nat.succ_pos _)
    have ih := hd_at (r := r) (p := p) (fun j hj => h0 (j + 1) (Nat.succ_lt_succ hj)) h
    unfold hdF at ih ⊢
    rw [List.filter_cons, if_neg (by rw [decide_eq_false (fun z => z ha)]; exact Bool.false_ne_true)]
    exact ih
section
variable {g : Int} {F : Type} [CommRing F] (V : GV g F)
/-- T: the least rows of t -/
structure LeastR (n k : Nat) (t T : List (List (Int × Int))) : Prop where
  row : ∀ r ∈ T, r.length = n ∧ ∀ a ∈ r, TN g k a
  rr : ∃ h, Rr (T.map (er V)) h ∧ ∀ p ∈ h, p < n
  s1 : ∀ r ∈ T, InS (t.map (er V)) (er V r)
  s2 : ∀ r ∈ t, InS (T.map (er V)) (er V r)
variable {V}
theorem er_at {r : List (Int × Int)} {j : Nat} (hj : j < r.length) : er V r j = V.e r[j] := by
  unfold er
  rw [List.getD_eq_getElem?_getD, List.getElem?_eq_getElem hj]
  rfl
theorem er_out {r : List (Int × Int)} {j : Nat} (hj : r.length ≤ j) : er V r j = 0 := by
  unfold er
  rw [List.getD_eq_getElem?_getD, List.getElem?_eq_none hj]
  exact V.zero
theorem er_inj (hg : g = 0 ∨ Gr5 g) {n k l : Nat} {r s : List (Int × Int)} (hr : r.length = n ∧ ∀ a ∈ r, TN g k a) (hs : s.length = n ∧ ∀ a ∈ s, TN g l a) (e : er V r = er V s) : r = s := by
  refine V.injL hg hr.2 hs.2 ?_
  refine List.ext_getElem (by rw [List.length_map, List.length_map, hr.1, hs.1]) fun i h1 h2 => ?_
  rw [List.length_map] at h1 h2
  rw [List.getElem_map, List.getElem_map, ← er_at h1, ← er_at h2, e]
theorem LeastR.uniq (hg : g = 0 ∨ Gr5 g) {n k l : Nat} {t t' T T' : List (List (Int × Int))} (a : LeastR V n k t T) (b : LeastR V n l t' T') (h1 : ∀ r ∈ t, InS (t'.map (er V)) (er V r)) (h2 : ∀ r ∈ t', InS (t.map (er V)) (er V r)) : T = T' := by
  obtain ⟨h, R, _⟩ := a.rr
  obtain ⟨h', R', _⟩ := b.rr
  have go : ∀ {t t' T T' : List (List (Int × Int))}, (∀ r ∈ T, InS (t.map (er V)) (er V r)) → (∀ r ∈ t, InS (t'.map (er V)) (er V r)) → (∀ r ∈ t', InS (T'.map (er V)) (er V r)) → ∀ u ∈ T.map (er V), InS (T'.map (er V)) u := fun {t t' T T'} x y z u hu => by
    obtain ⟨r, hr, rfl⟩ := List.mem_map.mp hu
    refine (InS.trans (M := t'.map (er V)) (x r hr) fun v hv => ?_).trans fun v hv => ?_
    · obtain ⟨q, hq, rfl⟩ := List.mem_map.mp hv
      exact y q hq
    · obtain ⟨q, hq, rfl⟩ := List.mem_map.mp hv
      exact z q hq
  have e := (R.uniq V.ne R' (go a.s1 h1 b.s2) (go b.s1 h2 a.s2)).1
  have hl : T.length = T'.length := by
    have := congrArg List.length e
    rw [List.length_map, List.length_map] at this
    exact this
  refine List.ext_getElem hl fun i i1 i2 => ?_
  have e2 : (T.map (er V))[i]? = (T'.map (er V))[i]? := by rw [e]
  rw [List.getElem?_map, List.getElem?_map, List.getElem?_eq_getElem i1, List.getElem?_eq_getElem i2] at e2
  exact er_inj hg (a.row _ (List.getElem_mem i1)) (b.row _ (List.getElem_mem i2)) (Option.some.inj e2)
/-- the program's whole numbers of a row: its numbers times one -/
theorem wr_fr (hg : g = 0 ∨ Gr5 g) {k : Nat} {r : List (Int × Int)} (hr : ∀ a ∈ r, TN g k a) : V.i (wrB r) ≠ 0 ∧ ∀ j, V.i (gt (wrT r) j) = V.i (wrB r) * er V r j := by
  have hpos : ∀ x ∈ r, 0 < x.2 := fun x hx => (hr x hx).pos
  have hb := (wrB_spec hpos).1
  refine ⟨V.ine (by omega) fun z => ?_, fun j => ?_⟩
  · have h5 := hg.resolve_left z
    have g0 : 0 < g := by unfold Gr5 at h5; omega
    rw [wrB_one fun x hx => (hr x hx).one g0]
    exact one_fmod h5
  · by_cases hj : j < r.length
    · have hm := List.getElem_mem hj
      have e1 : gt (wrT r) j = r[j].1 * (wrB r).fdiv r[j].2 := by
        unfold gt wrT
        rw [List.getD_eq_getElem?_getD, List.getElem?_map, List.getElem?_eq_getElem hj]
        rfl
      obtain ⟨q, hq⟩ := (wrB_spec hpos).2.1 _ hm
      have hp := hpos _ hm
      have e2 : (wrB r).fdiv r[j].2 = q := by
        rw [hq]
        exact Int.mul_fdiv_cancel_left _ (by omega)
      obtain ⟨e3, _⟩ := V.tn hg (hr _ hm)
      rw [e1, e2, er_at hj, hq, V.imul, V.imul, ← e3]
      grind
    · have e1 : gt (wrT r) j = 0 := by
        unfold gt wrT
        rw [List.getD_eq_getElem?_getD, List.getElem?_map, List.getElem?_eq_none (by omega)]
        rfl
      rw [e1, er_out (by omega), V.i0]
      grind
/-- behind the last column -/
theorem Fst.done (hg : g = 0 ∨ Gr5 g) {n k : Nat} {orig rows : List (List Int)} {h : List Nat} {t : List (List (Int × Int))} (f : Fst V n n orig rows h) (hk : 4 ≤ k) (hs : ∀ r ∈ rows, ∀ x, (gt r x).natAbs < 2 ^ k)
    (ht1 : ∀ r ∈ t, InS (orig.map (fr V)) (er V r)) (ht2 : ∀ o ∈ orig, InS (t.map (er V)) (fr V o)) : LeastR V n k t ((rows.take h.length).map (headF g)) := by
  obtain ⟨A, hA, hAr⟩ := f.piv
  have hlen : (rows.take h.length).length = h.length := by rw [List.length_take]; have := f.lr; omega
  -- each pivot's row by its head
  have key : ∀ (i : Nat) (r : List Int), i < h.length → rows[i]? = some r → ∃ a p, A[i]? = some a ∧ h[i]? = some p ∧ p < n ∧ gt r p ≠ 0 ∧ hdF r = gt r p ∧ er V (headF g r) = a ∧ (∀ j, V.i (gt r j) = V.i (gt r p) * a j) ∧ ∀ b ∈ headF g r, TN g k b := fun i r hi hr => by
    have ea : A[i]? = some (A[i]'(by rw [hA.len]; exact hi)) := List.getElem?_eq_getElem _
    have eh : h[i]? = some h[i] := List.getElem?_eq_getElem hi
    have hmem := List.mem_of_getElem? hr
    obtain ⟨hn, hx⟩ := hAr i _ r _ ea hr eh
    have ing := f.ing r hmem
    have hne : gt r h[i] ≠ 0 := fun z => hn (by rw [z, V.i0])
    have hd0 : hdF r = gt r h[i] := hd_at (fun j hj => V.iz ing (by rw [hx j, hA.ahead i _ _ j ea eh hj]; grind)) hne
    have hfm : g ≠ 0 → (gt r h[i]).fmod g ≠ 0 := fun z => by
      have h5 := hg.resolve_left z
      have g0 : 0 < g := by unfold Gr5 at h5; omega
      obtain ⟨q1, q2⟩ := ing z h[i]
      rw [fmod_pos _ g0, Int.emod_eq_of_lt q1 q2]
      exact hne
    have hlow : ∀ x : Int, V.e (lowF g x (gt r h[i])) * V.i (gt r h[i]) = V.i x := fun x => V.low hg hne hfm
    refine ⟨_, _, ea, eh, f.hd _ (List.getElem_mem hi), hne, hd0, funext fun j => ?_, hx, fun b hb => ?_⟩
    · refine V.cancel (z := V.i (gt r h[i])) ?_ hn
      by_cases hj : j < r.length
      · have hj' : j < (headF g r).length := by unfold headF; rw [List.length_map]; exact hj
        rw [er_at hj']
        have e1 : (headF g r)[j] = lowF g r[j] (gt r h[i]) := by
          rw [← hd0]
          exact List.getElem_map ..
        have e2 : gt r j = r[j] := by unfold gt; rw [List.getD_eq_getElem?_getD, List.getElem?_eq_getElem hj]; rfl
        rw [e1, hlow, ← e2, hx j]
        grind
      · rw [er_out (by unfold headF; rw [List.length_map]; omega)]
        have e2 : gt r j = 0 := by unfold gt; rw [List.getD_eq_getElem?_getD, List.getElem?_eq_none (by omega)]; rfl
        have h2 := hx j
        rw [e2, V.i0] at h2
        grind
    · obtain ⟨x, hx', rfl⟩ := List.mem_map.mp hb
      rw [hd0]
      obtain ⟨j, hj, rfl⟩ := List.mem_iff_getElem.mp hx'
      have e2 : gt r j = r[j] := by unfold gt; rw [List.getD_eq_getElem?_getD, List.getElem?_eq_getElem hj]; rfl
      rw [← e2]
      exact tn_low hg hne hfm hk (hs r hmem j) (hs r hmem _)
  have hmapA : ((rows.take h.length).map (headF g)).map (er V) = A := by
    refine List.ext_getElem? fun i => ?_
    rw [List.getElem?_map, List.getElem?_map]
    by_cases hi : i < h.length
    · rw [List.getElem?_take, if_pos hi]
      have hr : rows[i]? = some (rows[i]'(by have := f.lr; omega)) := List.getElem?_eq_getElem _
      obtain ⟨a, p, ea, _, _, _, _, e, _⟩ := key i _ hi hr
      rw [hr, ea]
      exact congrArg some e
    · rw [List.getElem?_take, if_neg hi, List.getElem?_eq_none (by rw [hA.len]; omega)]
      rfl
  -- rows of the field: the pivots' span all
  have hin : ∀ r ∈ rows, InS A (fr V r) := fun r hr => by
    obtain ⟨i, hi⟩ := List.getElem?_of_mem hr
    by_cases hi2 : i < h.length
    · obtain ⟨a, p, ea, _, _, _, _, _, hx, _⟩ := key i r hi2 hi
      have e2 : fr V r = fun j => V.i (gt r p) * a j := funext hx
      rw [e2]
      exact (InS.spc A).mul _ _ (InS.mem (List.mem_of_getElem? ea))
    · have e2 : fr V r = fun _ => 0 := funext fun j => by
        show V.i (gt r j) = 0
        by_cases hj : j < n
        · exact f.non i r (by omega) hi j hj
        · have : gt r j = 0 := by unfold gt; rw [List.getD_eq_getElem?_getD, List.getElem?_eq_none (by rw [f.len r hr]; omega)]; rfl
          rw [this, V.i0]
      rw [e2]
      exact (InS.spc A).zero
  refine ⟨fun r hr => ?_, ⟨h, by rw [hmapA]; exact hA, f.hd⟩, fun r hr => ?_, fun r hr => ?_⟩
  · obtain ⟨o, ho, rfl⟩ := List.mem_map.mp hr
    obtain ⟨i, hi⟩ := List.getElem?_of_mem ho
    rw [List.getElem?_take] at hi
    by_cases hi2 : i < h.length
    · rw [if_pos hi2] at hi
      obtain ⟨_, _, _, _, _, _, _, _, _, ht⟩ := key i o hi2 hi
      exact ⟨by unfold headF; rw [List.length_map]; exact f.len o (List.mem_of_getElem? hi), ht⟩
    · rw [if_neg hi2] at hi
      cases hi
  · obtain ⟨o, ho, rfl⟩ := List.mem_map.mp hr
    obtain ⟨i, hi⟩ := List.getElem?_of_mem ho
    rw [List.getElem?_take] at hi
    by_cases hi2 : i < h.length
    · rw [if_pos hi2] at hi
      obtain ⟨a, p, ea, _, _, hne, _, e, hx, _⟩ := key i o hi2 hi
      have hmem := List.mem_of_getElem? hi
      have hn : V.i (gt o p) ≠ 0 := fun z => hne (V.iz (f.ing o hmem) z)
      obtain ⟨y, hy⟩ := V.inv _ hn
      have e2 : er V (headF g o) = fun j => y * fr V o j := funext fun j => by
        rw [e]
        show a j = y * V.i (gt o j)
        rw [hx j]
        grind
      rw [e2]
      refine (InS.spc _).mul y _ ((f.sp1 o hmem).trans fun v hv => ?_)
      obtain ⟨q, hq, rfl⟩ := List.mem_map.mp hv
      exact ht2 q hq
    · rw [if_neg hi2] at hi
      cases hi
  · rw [hmapA]
    refine (InS.trans (M := rows.map (fr V)) (ht1 r hr) fun v hv => ?_).trans fun v hv => ?_
    · obtain ⟨q, hq, rfl⟩ := List.mem_map.mp hv
      exact f.sp2 q hq
    · obtain ⟨q, hq, rfl⟩ := List.mem_map.mp hv
      exact hin q hq
end
end Fm

namespace Fr
open Lean.Grind
variable {F : Type} [CommRing F]
/-! ### what only changes its sign where two neighbours are exchanged -/
def Sw {α : Type} (m : Nat) (f : List α → F) : Prop := ∀ (pre : List α) (u v : α) (post : List α), pre.length + post.length + 2 = m → f (pre ++ u :: v :: post) = -f (pre ++ v :: u :: post)
theorem Sw.move {α : Type} {m : Nat} {f : List α → F} (a : Sw m f) {u : α} : ∀ (mid pre post : List α), pre.length + mid.length + post.length + 1 = m → f (pre ++ u :: (mid ++ post)) = sF mid.length * f (pre ++ mid ++ u :: post)
  | [], pre, post, _ => by
    show f (pre ++ u :: post) = 1 * f (pre ++ [] ++ u :: post)
    rw [List.append_nil]
    grind
  | v :: mid, pre, post, h => by
    rw [List.length_cons] at h
    have h1 := a pre u v (mid ++ post) (by rw [List.length_append]; omega)
    have h2 := Sw.move a mid (pre ++ [v]) post (by rw [List.length_append]; show pre.length + 1 + mid.length + post.length + 1 = m; omega) (u := u)
    simp only [List.append_assoc, List.singleton_append] at h2
    show f (pre ++ u :: v :: (mid ++ post)) = sF (mid.length + 1) * f (pre ++ v :: mid ++ u :: post)
    rw [h1, h2, sF_succ]
    simp only [List.append_assoc, List.cons_append]
    grind
theorem Sw.tail {α : Type} {m : Nat} {f : List α → F} (a : Sw (m + 1) f) (u : α) : Sw m fun l => f (u :: l) := fun pre v w post h => a (u :: pre) v w post (by rw [List.length_cons]; omega)
/-- the sign of the other way about -/
def eF : Nat → F
  | 0 => 1
  | n + 1 => sF n * eF n
theorem eF_sq : ∀ n, (eF n * eF n : F) = 1
  | 0 => by
    show (1 : F) * 1 = 1
    grind
  | n + 1 => by
    show sF n * eF n * (sF n * eF n) = (1 : F)
    have h1 := eF_sq n
    have h2 := sF_sq n (F := F)
    grind
theorem Sw.rev {α : Type} : ∀ (l : List α) (f : List α → F), Sw l.length f → f l.reverse = eF l.length * f l
  | [], f, _ => by
    show f [] = 1 * f []
    grind
  | u :: l, f, a => by
    rw [List.length_cons] at a
    have h1 := a.move (u := u) l.reverse [] [] (by rw [List.length_reverse]; simp)
    have h2 := Sw.rev l (fun l => f (u :: l)) (a.tail u)
    rw [List.append_nil, List.nil_append, List.nil_append, List.length_reverse] at h1
    have h2' : f (u :: l.reverse) = eF l.length * f (u :: l) := h2
    rw [List.reverse_cons]
    show f (l.reverse ++ [u]) = sF l.length * eF l.length * f (u :: l)
    rw [h2'] at h1
    have h3 := sF_sq l.length (F := F)
    have : f (l.reverse ++ [u]) = sF l.length * (eF l.length * f (u :: l)) := by
      rw [h1]
      grind
    rw [this]
    grind
end Fr
namespace Fd
open Lean.Grind Fr
/-! ### whole numbers: after Bareiss -/
abbrev gR (r : List Int) : Row Int := fun x => gt r x
theorem S_SF (f : Nat → Int) : ∀ n, S f n = SF f n
  | 0 => rfl
  | n + 1 => by
    show S f n + f n = SF f n + f n
    rw [S_SF f n]
theorem sg_sF (i : Nat) : sg i = sF i := rfl
theorem dt_dC : ∀ (cs : List Nat) (P : List (List Int)), dt P cs = dC (P.map gR) cs
  | [], _ => rfl
  | c :: cs, P => by
    show S (fun i => sg i * ent P i c * dt (P.eraseIdx i) cs) P.length = SF (fun i => sF i * ((P.map gR).getD i zr) c * dC ((P.map gR).eraseIdx i) cs) (P.map gR).length
    rw [S_SF, List.length_map]
    refine SF_congr fun i hi => ?_
    rw [dt_dC cs (P.eraseIdx i)]
    have e1 : (P.eraseIdx i).map gR = (P.map gR).eraseIdx i := by rw [List.eraseIdx_eq_take_drop_succ, List.eraseIdx_eq_take_drop_succ, List.map_append, List.map_take, List.map_drop]
    have e2 : ent P i c = ((P.map gR).getD i zr) c := by
      have q1 : P.getD i [] = P[i] := by rw [List.getD_eq_getElem?_getD, List.getElem?_eq_getElem hi]; rfl
      have q2 : (P.map gR).getD i zr = gR P[i] := by rw [List.getD_eq_getElem?_getD, List.getElem?_map, List.getElem?_eq_getElem hi]; rfl
      unfold ent
      rw [q1, q2]
    rw [e1, e2]
    rfl
/-- the rows' signs -/
theorem dt_sw (cs : List Nat) : Sw cs.length (fun P : List (List Int) => dt P cs) := fun pre u v post h => by
  have a := (dC_alt cs (F := Int)).swap (pre := pre.map gR) (post := post.map gR) (u := gR u) (v := gR v) (by rw [List.length_map, List.length_map]; exact h)
  show dt (pre ++ u :: v :: post) cs = -dt (pre ++ v :: u :: post) cs
  rw [dt_dC, dt_dC, List.map_append, List.map_append, List.map_cons, List.map_cons, List.map_cons, List.map_cons]
  exact a
/-- the columns' signs -/
theorem dt_csw : ∀ (P : List (List Int)) (m : Nat), Sw m (fun cs : List Nat => dt P cs) := fun P m pre => by
  have go : ∀ (pre : List Nat) (P : List (List Int)) (u v : Nat) (post : List Nat), dt P (pre ++ u :: v :: post) = -dt P (pre ++ v :: u :: post) := fun pre => by
    induction pre with
    | nil => exact fun P u v post => dt_swap P u v post
    | cons c pre ih =>
      intro P u v post
      show S (fun i => sg i * ent P i c * dt (P.eraseIdx i) (pre ++ u :: v :: post)) P.length = -S (fun i => sg i * ent P i c * dt (P.eraseIdx i) (pre ++ v :: u :: post)) P.length
      rw [← S_neg]
      exact S_congr fun i _ => by
        rw [ih (P.eraseIdx i) u v post]
        grind
  exact fun u v post _ => go pre P u v post
theorem dt_rev {P : List (List Int)} {cs : List Nat} (hl : P.length = cs.length) : dt P.reverse cs.reverse = dt P cs := by
  have a1 := dt_sw cs.reverse
  rw [List.length_reverse, ← hl] at a1
  have h1 : dt P.reverse cs.reverse = eF P.length * dt P cs.reverse := Sw.rev P (fun P => dt P cs.reverse) a1
  have h2 : dt P cs.reverse = eF cs.length * dt P cs := Sw.rev cs (fun cs => dt P cs) (dt_csw P _)
  rw [h1, h2, hl]
  have := eF_sq cs.length (F := Int)
  grind
/-- a row of others brought ahead -/
theorem dt_head {P O : List (List Int)} {p : Nat} {o : List Int} {cs : List Nat} (hl : P.length + O.length = cs.length) (ho : O[p]? = some o) : dt (P ++ O) cs = sg p * dt (P ++ o :: O.eraseIdx p) cs := by
  have hp := (List.getElem?_eq_some_iff.mp ho).1
  obtain ⟨e1, e2⟩ := erase_parts (d := []) hp
  have e3 : O.getD p [] = o := by rw [List.getD_eq_getElem?_getD, ho]; rfl
  rw [e3] at e1
  have a := (dt_sw cs).move (u := o) (O.take p) P (O.drop (p + 1)) (by rw [← hl, List.length_take, List.length_drop]; omega)
  have hlen : (O.take p).length = p := by rw [List.length_take]; omega
  rw [hlen] at a
  have a' : dt (P ++ o :: (O.take p ++ O.drop (p + 1))) cs = sF p * dt (P ++ O.take p ++ o :: O.drop (p + 1)) cs := a
  rw [e2, a', List.append_assoc, ← e1, sg_sF]
  have := sF_sq p (F := Int)
  grind
/-- where no row has another number than nought at the next column the determinant is nought -/
theorem dt_none {P O : List (List Int)} {c : List Nat} {j : Nat} {cs : List Nat} (hlP : P.length = c.length) (hD : dt P c ≠ 0) (hn : (j :: c).Nodup) (hz : ∀ o ∈ O, dt (o :: P) (j :: c) = 0) (hc : ∀ k ∈ c, k ∈ cs) (hj : j ∉ cs) (L : List (List Int)) (hL : ∀ r ∈ L, r ∈ P ∨ r ∈ O) : dt L (j :: cs) = 0 := by
  -- each row at j by its numbers at c
  have hrow : ∀ r ∈ L, dt P c * gt r j = S (fun k => -(sg (k + 1) * dt P (j :: c.eraseIdx k)) * gt r (c.getD k 0)) c.length := fun r hr => by
    have h0 : dt (r :: P) (j :: c) = 0 := by
      rcases hL r hr with h | h
      · rw [dt_dC, List.map_cons]
        obtain ⟨p1, p2, rfl⟩ := List.append_of_mem h
        have a := (dC_alt (j :: c) (F := Int)).twice (u := gR r) [] (p1.map gR) (p2.map gR) (by rw [List.length_append, List.length_cons] at hlP; rw [List.length_nil, List.length_map, List.length_map, List.length_cons]; omega)
        rw [List.map_append, List.map_cons]
        exact a
      · exact hz r h
    have e := dC_dR (rs := (r :: P).map gR) (cs := j :: c) (by rw [List.length_map, List.length_cons, List.length_cons, hlP]) hn
    rw [← dt_dC, h0, List.map_cons] at e
    have e' : (0 : Int) = SF (fun k => sF k * gR r ((j :: c).getD k 0) * dR (P.map gR) ((j :: c).eraseIdx k)) (c.length + 1) := e
    rw [SF_front] at e'
    have hdR : ∀ cs' : List Nat, cs'.Nodup → P.length = cs'.length → dR (P.map gR) cs' = dt P cs' := fun cs' h1 h2 => by rw [dt_dC, dC_dR (by rw [List.length_map]; exact h2) h1]
    have hn2 := List.nodup_cons.mp hn
    have e0 : sF 0 * gR r ((j :: c).getD 0 0) * dR (P.map gR) ((j :: c).eraseIdx 0) = dt P c * gt r j := by
      show 1 * gt r j * dR (P.map gR) c = _
      rw [hdR c hn2.2 hlP]
      grind
    have e1 : SF (fun i => sF (i + 1) * gR r ((j :: c).getD (i + 1) 0) * dR (P.map gR) ((j :: c).eraseIdx (i + 1))) c.length = -S (fun k => -(sg (k + 1) * dt P (j :: c.eraseIdx k)) * gt r (c.getD k 0)) c.length := by
      rw [← S_neg, S_SF]
      refine SF_congr fun i hi => ?_
      show sF (i + 1) * gt r (c.getD i 0) * dR (P.map gR) (j :: c.eraseIdx i) = -(-(sg (i + 1) * dt P (j :: c.eraseIdx i)) * gt r (c.getD i 0))
      rw [hdR (j :: c.eraseIdx i) (List.nodup_cons.mpr ⟨fun z => hn2.1 (List.mem_of_mem_eraseIdx z), hn2.2.sublist (List.eraseIdx_sublist ..)⟩) (by rw [List.length_cons, List.length_eraseIdx_of_lt hi]; omega), sg_sF]
      grind
    rw [e0, e1] at e'
    omega
  have hmul : dt P c * dt L (j :: cs) = 0 := by
    show dt P c * S (fun i => sg i * ent L i j * dt (L.eraseIdx i) cs) L.length = 0
    rw [← S_mul]
    have e1 : S (fun i => dt P c * (sg i * ent L i j * dt (L.eraseIdx i) cs)) L.length = S (fun i => S (fun k => -(sg (k + 1) * dt P (j :: c.eraseIdx k)) * (sg i * ent L i (c.getD k 0) * dt (L.eraseIdx i) cs)) c.length) L.length := S_congr fun i hi => by
      have hm : L.getD i [] ∈ L := by
        rw [List.getD_eq_getElem?_getD, List.getElem?_eq_getElem hi]
        exact List.getElem_mem hi
      have h1 := hrow _ hm
      have h2 : dt P c * (sg i * ent L i j * dt (L.eraseIdx i) cs) = sg i * dt (L.eraseIdx i) cs * (dt P c * gt (L.getD i []) j) := by
        show dt P c * (sg i * gt (L.getD i []) j * dt (L.eraseIdx i) cs) = _
        grind
      rw [h2, h1, ← S_mul]
      refine S_congr fun k _ => ?_
      show _ = -(sg (k + 1) * dt P (j :: c.eraseIdx k)) * (sg i * gt (L.getD i []) (c.getD k 0) * dt (L.eraseIdx i) cs)
      grind
    rw [e1, S_comm]
    rw [S_congr (g := fun _ => 0) fun k hk => ?_, S_zero]
    rw [S_mul]
    have hck : c.getD k 0 ∈ cs := hc _ (by
      rw [List.getD_eq_getElem?_getD, List.getElem?_eq_getElem hk]
      exact List.getElem_mem hk)
    have := dt_twice (c.getD k 0) cs L hck
    have h2 : S (fun i => sg i * ent L i (c.getD k 0) * dt (L.eraseIdx i) cs) L.length = 0 := this
    rw [h2, Int.mul_zero]
  rcases Int.mul_eq_zero.mp hmul with z | z
  · exact absurd z hD
  · exact z
/-- the loop's state: j columns done -/
structure Bst (A n j : Nat) (orig rows : List (List Int)) (sign last : Int) : Prop where
  ex : ∃ P O : List (List Int), P.length = j ∧ O.length + j = n ∧ rows.length = O.length ∧ dt P (List.range j).reverse = last ∧
    (∀ (i : Nat) (o r : List Int), O[i]? = some o → rows[i]? = some r → r.length = n - j ∧ ∀ x, x < n - j → gt r x = dt (o :: P) ((j + x) :: (List.range j).reverse)) ∧
    sign * dt (P.reverse ++ O) (List.range n) = dt orig (List.range n) ∧ (∀ r, r ∈ P ∨ r ∈ O → ∀ x, (gt r x).natAbs ≤ A)
  ne : last ≠ 0
theorem Bst.start {A n : Nat} {orig : List (List Int)} (hl : orig.length = n) (hr : ∀ r ∈ orig, r.length = n ∧ ∀ x, (gt r x).natAbs ≤ A) : Bst A n 0 orig orig 1 1 := by
  refine ⟨⟨[], orig, rfl, by omega, rfl, rfl, fun i o r ho hr' => ?_, by show 1 * dt orig _ = _; omega, fun r h x => ?_⟩, by decide⟩
  · have e : o = r := Option.some.inj (ho.symm.trans hr')
    subst e
    refine ⟨(hr o (List.mem_of_getElem? ho)).1, fun x _ => ?_⟩
    show gt o x = 0 + sg 0 * ent [o] 0 (0 + x) * 1
    rw [Nat.zero_add]
    show gt o x = 0 + 1 * gt o x * 1
    omega
  · rcases h with h | h
    · cases h
    · exact (hr r h).2 x
theorem Bst.bound {A n j : Nat} {orig rows : List (List Int)} {sign last : Int} (b : Bst A n j orig rows sign last) (hA : 1 ≤ A) (hj : j < n) : (∀ r ∈ rows, r.length = n - j ∧ ∀ x, (gt r x).natAbs ≤ (n * A) ^ n) ∧ last.natAbs ≤ (n * A) ^ n := by
  obtain ⟨P, O, hP, hO, hrl, hlast, hx, _, hb⟩ := b.ex
  have hbP : ∀ i x, (ent P i x).natAbs ≤ A := fun i x => by
    show (gt (P.getD i []) x).natAbs ≤ A
    cases e : P[i]? with
    | none =>
      have q1 : P.getD i [] = [] := by rw [List.getD_eq_getElem?_getD, e]; rfl
      have : gt [] x = 0 := by unfold gt; simp
      rw [q1, this]
      exact Nat.zero_le _
    | some r =>
      have q1 : P.getD i [] = r := by rw [List.getD_eq_getElem?_getD, e]; rfl
      rw [q1]
      exact hb r (.inl (List.mem_of_getElem? e)) x
  have hlr : (List.range j).reverse.length = j := by rw [List.length_reverse, List.length_range]
  refine ⟨fun r hr => ?_, ?_⟩
  · obtain ⟨i, hi⟩ := List.getElem?_of_mem hr
    have hil := (List.getElem?_eq_some_iff.mp hi).1
    have ho : O[i]? = some (O[i]'(by omega)) := List.getElem?_eq_getElem _
    obtain ⟨h1, h2⟩ := hx i _ r ho hi
    refine ⟨h1, fun x => ?_⟩
    by_cases hxn : x < n - j
    · rw [h2 x hxn]
      refine Nat.le_trans (dt_abs (A := A) _ _ (by rw [List.length_cons, List.length_cons, hlr, hP]) fun k y => ?_) ?_
      · cases k with
        | zero => rw [ent_zero]; exact hb _ (.inr (List.mem_of_getElem? ho)) y
        | succ k => rw [ent_succ]; exact hbP k y
      · rw [List.length_cons, hlr]
        exact pow_mono (by omega) (Nat.mul_le_mul (show 1 ≤ n by omega) hA)
    · have : gt r x = 0 := by unfold gt; rw [List.getD_eq_getElem?_getD, List.getElem?_eq_none (by omega)]; rfl
      rw [this]
      exact Nat.zero_le _
  · rw [← hlast]
    refine Nat.le_trans (dt_abs (A := A) _ P (by rw [hlr, hP]) hbP) ?_
    rw [hlr]
    exact pow_mono (by omega) (Nat.mul_le_mul (show 1 ≤ n by omega) hA)
/-- the program's smaller rows -/
def smF (last : Int) (head row : List Int) : List Int := (List.range (row.length - 1)).map fun k => (gt row (k + 1) * gt head 0 - gt row 0 * gt head (k + 1)).fdiv last
theorem range_rev (j : Nat) : (List.range (j + 1)).reverse = j :: (List.range j).reverse := by rw [List.range_succ, List.reverse_append]; rfl
theorem Bst.step {A n j p : Nat} {orig rows : List (List Int)} {sign last : Int} {head : List Int} (b : Bst A n j orig rows sign last) (hj : j + 1 < n) (hh : rows[p]? = some head) (hne : gt head 0 ≠ 0) : Bst A n (j + 1) orig ((rows.eraseIdx p).map (smF last head)) (sign * sg p) (gt head 0) := by
  obtain ⟨P, O, hP, hO, hrl, hlast, hx, hs, hb⟩ := b.ex
  have hp := (List.getElem?_eq_some_iff.mp hh).1
  have ho : O[p]? = some (O[p]'(by omega)) := List.getElem?_eq_getElem _
  obtain ⟨hl1, hx1⟩ := hx p _ head ho hh
  have hlr : (List.range j).reverse.length = j := by rw [List.length_reverse, List.length_range]
  have hh0 : gt head 0 = dt (O[p]'(by omega) :: P) (j :: (List.range j).reverse) := hx1 0 (by omega)
  refine ⟨⟨O[p]'(by omega) :: P, O.eraseIdx p, by rw [List.length_cons, hP], by rw [List.length_eraseIdx_of_lt (by omega)]; omega, by rw [List.length_map, List.length_eraseIdx_of_lt hp, List.length_eraseIdx_of_lt (by omega), hrl], by rw [range_rev]; exact hh0.symm, fun i o r ho' hr' => ?_, ?_, fun r h x => ?_⟩, hne⟩
  · rw [List.getElem?_map] at hr'
    rw [List.getElem?_eraseIdx] at ho' hr'
    have fin : ∀ (q : Nat) (r0 : List Int), O[q]? = some o → rows[q]? = some r0 → r = smF last head r0 → r.length = n - (j + 1) ∧ ∀ x, x < n - (j + 1) → gt r x = dt (o :: O[p]'(by omega) :: P) ((j + 1 + x) :: (List.range (j + 1)).reverse) := fun q r0 hoq hrq er => by
      obtain ⟨hl2, hx2⟩ := hx q o r0 hoq hrq
      subst er
      refine ⟨by unfold smF; rw [List.length_map, List.length_range, hl2]; omega, fun x hxn => ?_⟩
      have e1 : gt (smF last head r0) x = (gt r0 (x + 1) * gt head 0 - gt r0 0 * gt head (x + 1)).fdiv last := by
        unfold smF gt
        rw [List.getD_eq_getElem?_getD, List.getElem?_map, List.getElem?_range (by omega)]
        rfl
      have hsyl := dt_syl (P := P) (c := (List.range j).reverse) (by rw [hlr, hP]) (o := o) (h := O[p]'(by omega)) (k := j) (by rw [← hh0]; exact hne) (j + 1 + x)
      have q1 := hx2 (x + 1) (by omega)
      have q2 := hx2 0 (by omega)
      have q3 := hx1 (x + 1) (by omega)
      rw [show j + (x + 1) = j + 1 + x by omega] at q1 q3
      rw [show j + 0 = j by omega] at q2
      rw [e1, q1, q2, q3, hh0, range_rev, ← hsyl, hlast]
      exact Int.mul_fdiv_cancel_left _ b.ne
    split at ho'
    · rename_i hip
      rw [if_pos hip] at hr'
      cases e : rows[i]? with
      | none => rw [e] at hr'; cases hr'
      | some r0 =>
        rw [e] at hr'
        exact fin i r0 ho' e (Option.some.inj hr').symm
    · rename_i hip
      rw [if_neg hip] at hr'
      cases e : rows[i + 1]? with
      | none => rw [e] at hr'; cases hr'
      | some r0 =>
        rw [e] at hr'
        exact fin (i + 1) r0 ho' e (Option.some.inj hr').symm
  · have := dt_head (P := P.reverse) (O := O) (cs := List.range n) (by rw [List.length_reverse, List.length_range]; omega) ho
    rw [List.reverse_cons, List.append_assoc]
    show sign * sg p * dt (P.reverse ++ O[p]'(by omega) :: O.eraseIdx p) (List.range n) = _
    rw [← hs, this]
    grind
  · refine hb r ?_ x
    rcases h with h | h
    · rcases List.mem_cons.mp h with h | h
      · rw [h]
        exact .inr (List.getElem_mem _)
      · exact .inl h
    · exact .inr (List.mem_of_mem_eraseIdx h)
theorem Bst.none {A n j : Nat} {orig rows : List (List Int)} {sign last : Int} (b : Bst A n j orig rows sign last) (hj : j < n) (hz : ∀ (i : Nat) (r : List Int), rows[i]? = some r → gt r 0 = 0) : dt orig (List.range n) = 0 := by
  obtain ⟨P, O, hP, hO, hrl, hlast, hx, hs, hb⟩ := b.ex
  have hlr : (List.range j).reverse.length = j := by rw [List.length_reverse, List.length_range]
  have hjn : (List.range n)[j]? = some j := List.getElem?_range hj
  have mv := dt_move (List.range n) (P.reverse ++ O) j j hjn
  have hk : ∀ k, k < j → k ∈ (List.range n).eraseIdx j := fun k hk => List.mem_eraseIdx_iff_getElem?.mpr ⟨k, by omega, List.getElem?_range (by omega)⟩
  have hjm : j ∉ (List.range n).eraseIdx j := fun z => by
    obtain ⟨i, hi, e⟩ := List.mem_eraseIdx_iff_getElem?.mp z
    have hl := (List.getElem?_eq_some_iff.mp e).1
    rw [List.length_range] at hl
    rw [List.getElem?_range hl] at e
    exact hi (Option.some.inj e)
  have hnone := dt_none (P := P) (O := O) (c := (List.range j).reverse) (j := j) (cs := (List.range n).eraseIdx j) (by rw [hlr, hP]) (by rw [hlast]; exact b.ne) (by rw [← range_rev]; exact (List.reverse_perm _).nodup_iff.mpr List.nodup_range) (fun o ho => by
    obtain ⟨i, hi⟩ := List.getElem?_of_mem ho
    have hil := (List.getElem?_eq_some_iff.mp hi).1
    have hr : rows[i]? = some (rows[i]'(by omega)) := List.getElem?_eq_getElem _
    have := (hx i o _ hi hr).2 0 (by omega)
    rw [hz i _ hr] at this
    exact this.symm) (fun k hk' => hk k (List.mem_range.mp (List.mem_reverse.mp hk'))) hjm (P.reverse ++ O) (fun r hr => (List.mem_append.mp hr).imp (fun h => List.mem_reverse.mp h) id)
  rw [hnone] at mv
  rw [← hs]
  rcases Int.mul_eq_zero.mp mv.symm with z | z
  · have := sg_sq j
    rw [z] at this
    cases this
  · rw [z, Int.mul_zero]
theorem Bst.done {A n j : Nat} {orig rows : List (List Int)} {sign last : Int} (b : Bst A n j orig rows sign last) (hj : j + 1 = n) {r : List Int} (hr : rows[0]? = some r) : sign * gt r 0 = dt orig (List.range n) := by
  obtain ⟨P, O, hP, hO, hrl, hlast, hx, hs, hb⟩ := b.ex
  have hO1 : O.length = 1 := by omega
  match O, hO1 with
  | [o], _ =>
    obtain ⟨_, h2⟩ := hx 0 o r rfl hr
    have h3 := h2 0 (by omega)
    rw [← hs, h3]
    have e : P.reverse ++ [o] = (o :: P).reverse := by rw [List.reverse_cons]
    have e2 : List.range n = ((List.range n).reverse).reverse := by rw [List.reverse_reverse]
    rw [e, e2, dt_rev (P := o :: P) (cs := (List.range n).reverse) (by rw [List.length_cons, List.length_reverse, List.length_range]; omega), ← hj, range_rev]
    rfl
end Fd

namespace Fm
open Lean.Grind PySem L2 Fr Fd
/-! ### least rows made of numbers one head after another, and how great these numbers are -/
abbrev ga (r : List (Int × Int)) (j : Nat) : Int × Int := r.getD j (0, 1)
def lheadF (g : Int) (j : Nat) (r : List (Int × Int)) : List (Int × Int) := r.map fun x => timesF g x (ovrF g (1, 1) (ga r j))
def lclrF (g : Int) (j : Nat) (h r : List (Int × Int)) : List (Int × Int) := List.zipWith (plusF g) r (h.map fun x => timesF g x (minusF g (ga r j)))
theorem red_le {a : Int × Int} {d n : Int} (h : Red a) (hd : d ≠ 0) (e : a.1 * d = a.2 * n) : a.1.natAbs ≤ n.natAbs ∧ a.2.natAbs ≤ d.natAbs := by
  have h2 : a.2 ≠ 0 := by have := h.1; omega
  obtain ⟨q, hq⟩ := dvd_cop h.2 ⟨n, e⟩
  have q0 : q ≠ 0 := fun z => hd (by rw [hq, z, Int.mul_zero])
  have hn : a.1 * q = n := by
    refine Int.eq_of_mul_eq_mul_left h2 ?_
    rw [← e, hq]
    grind
  refine ⟨?_, ?_⟩
  · rw [← hn, Int.natAbs_mul]
    exact Nat.le_mul_of_pos_right _ (by omega)
  · rw [hq, Int.natAbs_mul]
    exact Nat.le_mul_of_pos_right _ (by omega)
section
variable {g : Int} {F : Type} [CommRing F]
/-- the rows by minors: P the heads' own rows, c their columns -/
structure LSz (V : GV g F) (A : Nat) (P : List (List Int)) (c : List Nat) (found left : List (List (Int × Int))) : Prop where
  lc : P.length = c.length
  det : dt P c ≠ 0
  bP : ∀ i x, (ent P i x).natAbs ≤ A
  fnd : ∀ v ∈ found, ∃ j m, c[j]? = some m ∧ ∀ x, er V v x * V.i (sg j * dt P c) = V.i (dt P (x :: c.eraseIdx j))
  lft : ∀ v ∈ left, ∃ (o : List Int) (b : Int), b ≠ 0 ∧ b.natAbs ≤ A ∧ (∀ x, (gt o x).natAbs ≤ A) ∧ ∀ x, er V v x * V.i (b * dt P c) = V.i (dt (o :: P) (x :: c))
variable {V : GV g F}
theorem sg_ne (j : Nat) : sg j ≠ 0 := fun z => by
  have := sg_sq j
  rw [z] at this
  cases this
theorem sg_one (j : Nat) : (sg j).natAbs = 1 := by
  unfold sg
  split <;> rfl
theorem red_of (hg0 : g = 0) {k : Nat} {a : Int × Int} (h : TN g k a) : Red a := by
  subst hg0
  exact h.red
theorem ei_z (hg0 : g = 0) {a b : Int} (h : V.i a = V.i b) : a = b := by
  have : V.i (a - b) = 0 := by rw [V.isub, h]; grind
  have := (V.ker _ this).1 hg0
  omega
/-- a number out of two whole ones in the field: its parts are no greater -/
theorem tn_by (hg : g = 0 ∨ Gr5 g) (hg0 : g = 0) {k : Nat} {a : Int × Int} (h : TN g k a) {d n : Int} (hd : d ≠ 0) (e : V.e a * V.i d = V.i n) : a.1.natAbs ≤ n.natAbs ∧ a.2.natAbs ≤ d.natAbs := by
  refine red_le (red_of hg0 h) hd (ei_z (V := V) hg0 ?_)
  obtain ⟨e1, n1⟩ := V.tn hg h
  rw [V.imul, V.imul, ← e1, ← e]
  grind
theorem LSz.bound (hg : g = 0 ∨ Gr5 g) (hg0 : g = 0) {A k n : Nat} {P : List (List Int)} {c : List Nat} {found left : List (List (Int × Int))} (z : LSz V A P c found left) (hc : c.length ≤ n) (hA : 1 ≤ A) :
    ∀ v ∈ found ++ left, (∀ a ∈ v, TN g k a) → ∀ a ∈ v, a.1.natAbs ≤ A * ((n + 1) * A) ^ (n + 1) ∧ a.2.natAbs ≤ A * ((n + 1) * A) ^ (n + 1) := fun v hv ht a ha => by
  obtain ⟨x, hx, rfl⟩ := List.mem_iff_getElem.mp ha
  have ta := ht _ (List.getElem_mem hx)
  have hD : ∀ (Q : List (List Int)) (cs : List Nat), Q.length = cs.length → cs.length ≤ n + 1 → (∀ i y, (ent Q i y).natAbs ≤ A) → (dt Q cs).natAbs ≤ ((n + 1) * A) ^ (n + 1) := fun Q cs h1 h2 h3 => Nat.le_trans (dt_abs cs Q h1 h3) (pow_mono h2 (Nat.mul_le_mul (show 1 ≤ n + 1 by omega) hA))
  have hB : ((n + 1) * A) ^ (n + 1) ≤ A * ((n + 1) * A) ^ (n + 1) := Nat.le_mul_of_pos_left _ hA
  rcases List.mem_append.mp hv with h | h
  · obtain ⟨j, m, hj, e⟩ := z.fnd v h
    have hjl := (List.getElem?_eq_some_iff.mp hj).1
    have e1 := e x
    rw [er_at hx] at e1
    have hl : P.length = (x :: c.eraseIdx j).length := by
      rw [List.length_cons, List.length_eraseIdx_of_lt hjl, z.lc]
      omega
    obtain ⟨b1, b2⟩ := tn_by hg hg0 ta (Int.mul_ne_zero (sg_ne j) z.det) e1
    rw [Int.natAbs_mul, sg_one, Nat.one_mul] at b2
    have d1 := hD P c z.lc (by omega) z.bP
    have d2 := hD P _ hl (by rw [← hl, z.lc]; omega) z.bP
    exact ⟨by omega, by omega⟩
  · obtain ⟨o, b, hb, hbA, ho, e⟩ := z.lft v h
    have e1 := e x
    rw [er_at hx] at e1
    obtain ⟨b1, b2⟩ := tn_by hg hg0 ta (Int.mul_ne_zero hb z.det) e1
    have d1 := hD P c z.lc (by omega) z.bP
    have d2 := hD (o :: P) (x :: c) (by rw [List.length_cons, List.length_cons, z.lc]) (by rw [List.length_cons]; omega) fun i y => by
      cases i with
      | zero => rw [ent_zero]; exact ho y
      | succ i => rw [ent_succ]; exact z.bP i y
    refine ⟨by omega, Nat.le_trans b2 ?_⟩
    rw [Int.natAbs_mul]
    exact Nat.mul_le_mul hbA d1
theorem LSz.start (hg : g = 0 ∨ Gr5 g) {A k : Nat} {t : List (List (Int × Int))} (ht : ∀ r ∈ t, ∀ a ∈ r, TN g k a) (hA : ∀ r ∈ t, (wrB r).natAbs ≤ A ∧ ∀ y ∈ wrT r, y.natAbs ≤ A) : LSz V A [] [] [] t := by
  refine ⟨rfl, by show (1 : Int) ≠ 0; decide, fun i x => ?_, fun v hv => (by cases hv), fun v hv => ⟨wrT v, wrB v, ?_, (hA v hv).1, fun x => ?_, fun x => ?_⟩⟩
  · have : ([] : List (List Int)).getD i [] = [] := by simp
    show (gt (([] : List (List Int)).getD i []) x).natAbs ≤ A
    rw [this]
    exact Nat.zero_le _
  · have := (wrB_spec fun x hx => (ht v hv x hx).pos).1
    omega
  · by_cases e : gt (wrT v) x = 0
    · rw [e]
      exact Nat.zero_le _
    · exact (hA v hv).2 _ (gt_mem e)
  · have e := (wr_fr (V := V) hg (ht v hv)).2 x
    have e1 : dt [wrT v] [x] = gt (wrT v) x := by
      show 0 + sg 0 * gt (wrT v) x * 1 = _
      show 0 + 1 * gt (wrT v) x * 1 = _
      omega
    rw [e1, e]
    show er V v x * V.i (wrB v * 1) = _
    rw [Int.mul_one]
    grind
theorem LSz.step (hg0 : g = 0) {A k : Nat} {P : List (List Int)} {c : List Nat} {found left : List (List (Int × Int))} (z : LSz V A P c found left) {v0 head : List (Int × Int)} (hv0 : v0 ∈ left) (hne : er V v0 k ≠ 0) (hh : ∀ x, er V head x * er V v0 k = er V v0 x) {f : List (Int × Int) → List (Int × Int)} (hf : ∀ r ∈ found ++ left, er V (f r) = clr k (er V head) (er V r)) :
    ∃ P' c', c'.length = c.length + 1 ∧ LSz V A P' c' (found.map f ++ [head]) (left.map f) := by
  obtain ⟨o, b, hb, hbA, ho, e0⟩ := z.lft v0 hv0
  have vD : V.i (dt P c) ≠ 0 := V.ine z.det fun h => absurd hg0 h
  have vb : V.i b ≠ 0 := V.ine hb fun h => absurd hg0 h
  have hbD : V.i (b * dt P c) ≠ 0 := V.ine (Int.mul_ne_zero hb z.det) fun h => absurd hg0 h
  have hN : V.i (dt (o :: P) (k :: c)) ≠ 0 := fun q => by
    have := e0 k
    rw [q] at this
    exact hbD (V.dom this hne)
  have hD' : dt (o :: P) (k :: c) ≠ 0 := fun q => hN (by rw [q, V.i0])
  -- the head's row by minors
  have hhead : ∀ x, er V head x * V.i (dt (o :: P) (k :: c)) = V.i (dt (o :: P) (x :: c)) := fun x => by
    rw [← e0 x, ← e0 k, ← hh x]
    grind
  refine ⟨o :: P, k :: c, rfl, ?_, hD', fun i x => ?_, fun v hv => ?_, fun v hv => ?_⟩
  · rw [List.length_cons, List.length_cons, z.lc]
  · cases i with
    | zero => rw [ent_zero]; exact ho x
    | succ i => rw [ent_succ]; exact z.bP i x
  · rcases List.mem_append.mp hv with h | h
    · obtain ⟨r, hr, rfl⟩ := List.mem_map.mp h
      obtain ⟨j, m, hj, e⟩ := z.fnd r hr
      refine ⟨j + 1, m, hj, fun x => ?_⟩
      rw [hf r (List.mem_append_left _ hr)]
      show (er V r x + -(er V r k) * er V head x) * V.i (sg (j + 1) * dt (o :: P) (k :: c)) = V.i (dt (o :: P) (x :: k :: c.eraseIdx j))
      refine V.cancel (z := V.i (dt P c)) ?_ vD
      have hs := congrArg V.i (dt_piv z.lc (h := o) (k := k) hj hD' x)
      rw [V.ineg, V.isub, V.imul, V.imul, V.imul] at hs
      have ex := e x
      have ek := e k
      rw [V.imul] at ex ek
      have hx := hhead x
      rw [sg_succ, V.imul, V.ineg]
      grind
    · rw [List.mem_singleton.mp h]
      refine ⟨0, k, rfl, fun x => ?_⟩
      show er V head x * V.i (1 * dt (o :: P) (k :: c)) = V.i (dt (o :: P) (x :: c))
      rw [Int.one_mul]
      exact hhead x
  · obtain ⟨r, hr, rfl⟩ := List.mem_map.mp hv
    obtain ⟨o1, b1, hb1, hbA1, ho1, e⟩ := z.lft r hr
    refine ⟨o1, b1, hb1, hbA1, ho1, fun x => ?_⟩
    rw [hf r (List.mem_append_right _ hr)]
    show (er V r x + -(er V r k) * er V head x) * V.i (b1 * dt (o :: P) (k :: c)) = V.i (dt (o1 :: o :: P) (x :: k :: c))
    refine V.cancel (z := V.i (dt P c)) ?_ vD
    have hs := congrArg V.i (dt_syl z.lc (o := o1) (h := o) (k := k) hD' x)
    rw [V.isub, V.imul, V.imul, V.imul] at hs
    have ex := e x
    have ek := e k
    rw [V.imul] at ex ek
    have hx := hhead x
    rw [V.imul]
    grind
/-- the law's loop in the field -/
structure Lst (V : GV g F) (k j n : Nat) (t found left : List (List (Int × Int))) (h : List Nat) : Prop where
  fr : ∀ r ∈ found, r.length = n ∧ ∀ a ∈ r, TN g k a
  lr : ∀ r ∈ left, r.length = n ∧ ∀ a ∈ r, TN g k a
  rr : Rr (found.map (er V)) h
  hd : ∀ p ∈ h, p < j
  hl : h.length ≤ j
  nul : ∀ r ∈ left, ∀ x, x < j → er V r x = 0
  sp1 : ∀ r ∈ found ++ left, InS (t.map (er V)) (er V r)
  sp2 : ∀ r ∈ t, InS ((found ++ left).map (er V)) (er V r)
theorem Lst.start {k n : Nat} {t : List (List (Int × Int))} (ht : ∀ r ∈ t, r.length = n ∧ ∀ a ∈ r, TN g k a) : Lst V k 0 n t [] t [] :=
  ⟨fun r hr => (by cases hr), ht, rr_nil, fun p hp => (by cases hp), Nat.le_refl _, fun r hr x hx => absurd hx (Nat.not_lt_zero _), fun r hr => InS.mem (List.mem_map.mpr ⟨r, hr, rfl⟩), fun r hr => InS.mem (List.mem_map.mpr ⟨r, hr, rfl⟩)⟩
theorem ga_at {r : List (Int × Int)} {j : Nat} (hj : j < r.length) : ga r j = r[j] := by
  unfold ga
  rw [List.getD_eq_getElem?_getD, List.getElem?_eq_getElem hj]
  rfl
theorem Lst.skip (hg : g = 0 ∨ Gr5 g) {k j n : Nat} {t found left : List (List (Int × Int))} {h : List Nat} (s : Lst V k j n t found left h) (hz : ∀ r ∈ left, ga r j = (0, 1)) : Lst V k (j + 1) n t found left h :=
  ⟨s.fr, s.lr, s.rr, fun p hp => Nat.lt_succ_of_lt (s.hd p hp), Nat.le_succ_of_le s.hl, fun r hr x hx => by
    by_cases e : x = j
    · subst e
      show V.e (ga r x) = 0
      rw [hz r hr]
      exact V.zero
    · exact s.nul r hr x (by omega), s.sp1, s.sp2⟩
theorem er_ga (r : List (Int × Int)) (j : Nat) : er V r j = V.e (ga r j) := rfl
theorem lhead_er (hg : g = 0 ∨ Gr5 g) {k j n : Nat} {r : List (Int × Int)} (hr : r.length = n ∧ ∀ a ∈ r, TN g k a) (hj : j < n) (hk : 4 ≤ k) (hne : ga r j ≠ (0, 1)) :
    er V r j ≠ 0 ∧ (∀ x, er V (lheadF g j r) x * er V r j = er V r x) ∧ (lheadF g j r).length = n ∧ ∀ a ∈ lheadF g j r, TN g (k + (4 + k)) a := by
  have hjl : j < r.length := by rw [hr.1]; exact hj
  have ta : TN g k (ga r j) := by rw [ga_at hjl]; exact hr.2 _ (List.getElem_mem hjl)
  have h1 : (ga r j).1 ≠ 0 := fun z => hne (V.inj hg ta (tn_zero hg) (by
    rw [V.zero]
    obtain ⟨e1, n1⟩ := V.tn hg ta
    rw [z, V.i0] at e1
    have e2 : V.i (ga r j).2 * V.e (ga r j) = 0 := by rw [← e1]; grind
    exact V.dom e2 n1))
  have ho : V.e (ovrF g (1, 1) (ga r j)) * V.e (ga r j) = 1 := by
    have := V.over hg (tn_one hg) ta h1
    rw [V.one] at this
    exact this
  have to := tn_ovr hg (tn_one hg) ta (Nat.le_refl 4) h1
  have hn : er V r j ≠ 0 := fun z => by
    rw [er_ga] at z
    rw [z] at ho
    exact V.ne (by rw [← ho]; grind)
  refine ⟨hn, fun x => ?_, by unfold lheadF; rw [List.length_map]; exact hr.1, fun a ha => ?_⟩
  · by_cases hx : x < r.length
    · have hx' : x < (lheadF g j r).length := by unfold lheadF; rw [List.length_map]; exact hx
      have e1 : (lheadF g j r)[x] = timesF g r[x] (ovrF g (1, 1) (ga r j)) := List.getElem_map ..
      rw [er_at hx', er_at hx, e1, V.times hg (hr.2 _ (List.getElem_mem hx)) to, er_ga]
      grind
    · rw [er_out (r := r) (j := x) (by omega), er_out (r := lheadF g j r) (j := x) (by unfold lheadF; rw [List.length_map]; omega)]
      grind
  · obtain ⟨x, hx, rfl⟩ := List.mem_map.mp ha
    exact tn_times hg (hr.2 x hx) to hk
theorem lclr_er (hg : g = 0 ∨ Gr5 g) {k l j n : Nat} {h r : List (Int × Int)} (hr : r.length = n ∧ ∀ a ∈ r, TN g k a) (hh : h.length = n ∧ ∀ a ∈ h, TN g l a) (hj : j < n) (hk : 4 ≤ k) (hl : 4 ≤ l) :
    er V (lclrF g j h r) = clr j (er V h) (er V r) ∧ (lclrF g j h r).length = n ∧ ∀ a ∈ lclrF g j h r, TN g (k + (l + k) + 1) a := by
  have hjl : j < r.length := by rw [hr.1]; exact hj
  have ta : TN g k (ga r j) := by rw [ga_at hjl]; exact hr.2 _ (List.getElem_mem hjl)
  have tm := tn_minus hg ta hk
  have hlen : (lclrF g j h r).length = n := by
    unfold lclrF
    rw [List.length_zipWith, List.length_map, hr.1, hh.1]
    omega
  have hget : ∀ x (hx : x < n), (lclrF g j h r)[x]'(by omega) = plusF g (r[x]'(by omega)) (timesF g (h[x]'(by omega)) (minusF g (ga r j))) := fun x hx => by
    unfold lclrF
    rw [List.getElem_zipWith, List.getElem_map]
  refine ⟨funext fun x => ?_, hlen, fun a ha => ?_⟩
  · unfold clr
    by_cases hx : x < n
    · have h1 : x < r.length := by omega
      have h2 : x < h.length := by omega
      have tr := hr.2 _ (List.getElem_mem h1)
      have th := hh.2 _ (List.getElem_mem h2)
      rw [er_at (show x < (lclrF g j h r).length by omega), hget x hx, er_at h1, er_at h2, V.plus hg tr (tn_times hg th tm hl), V.times hg th tm, V.minus hg ta, er_ga]
      grind
    · rw [er_out (show (lclrF g j h r).length ≤ x by omega), er_out (show r.length ≤ x by omega), er_out (show h.length ≤ x by omega)]
      grind
  · obtain ⟨x, hx, rfl⟩ := List.mem_iff_getElem.mp ha
    rw [hget x (by omega)]
    exact tn_plus hg (hr.2 _ (List.getElem_mem _)) (tn_times hg (hh.2 _ (List.getElem_mem _)) tm hl) hk
/-- a number of the ground by its parts -/
theorem tn_small (hg : g = 0 ∨ Gr5 g) {k l : Nat} {a : Int × Int} (h : TN g l a) (hk : 4 ≤ k) (hz : g = 0 → a.1.natAbs < 2 ^ k ∧ a.2.natAbs < 2 ^ k) : TN g k a := by
  rcases hg with e | h5
  · exact ⟨h.1, hz e⟩
  · have g0 : g ≠ 0 := by unfold Gr5 at h5; omega
    have h16 : 2 ^ 4 ≤ 2 ^ k := Nat.pow_le_pow_right (by decide) hk
    rcases h.1 with ⟨e, _⟩ | ⟨_, h1, h2, h3⟩
    · exact absurd e g0
    · refine ⟨h.1, ?_, ?_⟩
      · unfold Gr5 at h5
        have : a.1.natAbs < 16 := by omega
        omega
      · rw [h3]
        show 1 < 2 ^ k
        omega
theorem Lst.step (hg : g = 0 ∨ Gr5 g) {A k j n : Nat} {t found left : List (List (Int × Int))} {h : List Nat} (s : Lst V k j n t found left h) (hj : j < n) (hk : 4 ≤ k) (z : g = 0 → ∃ P c, c.length = h.length ∧ LSz V A P c found left) (hB : g = 0 → 1 ≤ A ∧ A * ((n + 1) * A) ^ (n + 1) < 2 ^ k) {v0 : List (Int × Int)} (hv0 : v0 ∈ left) (hne : ga v0 j ≠ (0, 1)) :
    (∀ a ∈ lheadF g j v0, TN g k a) ∧ Lst V k (j + 1) n t (found.map (lclrF g j (lheadF g j v0)) ++ [lheadF g j v0]) (left.map (lclrF g j (lheadF g j v0))) (h ++ [j]) ∧
    (g = 0 → ∃ P c, c.length = (h ++ [j]).length ∧ LSz V A P c (found.map (lclrF g j (lheadF g j v0)) ++ [lheadF g j v0]) (left.map (lclrF g j (lheadF g j v0)))) := by
  obtain ⟨hn0, hh, hhl, htH⟩ := lhead_er (V := V) hg (s.lr v0 hv0) hj hk hne
  generalize hH : lheadF g j v0 = H at *
  have all : ∀ r ∈ found ++ left, r.length = n ∧ ∀ a ∈ r, TN g k a := fun r hr => (List.mem_append.mp hr).elim (s.fr r) (s.lr r)
  have hf : ∀ r ∈ found ++ left, er V (lclrF g j H r) = clr j (er V H) (er V r) ∧ (lclrF g j H r).length = n ∧ ∀ a ∈ lclrF g j H r, TN g (k + (k + (4 + k) + k) + 1) a := fun r hr => lclr_er hg (all r hr) ⟨hhl, htH⟩ hj hk (by omega)
  have z' : g = 0 → ∃ P c, c.length = (h ++ [j]).length ∧ LSz V A P c (found.map (lclrF g j H) ++ [H]) (left.map (lclrF g j H)) := fun e => by
    obtain ⟨P, c, hc, zz⟩ := z e
    obtain ⟨P', c', hc', z2⟩ := zz.step e hv0 hn0 hh fun r hr => (hf r hr).1
    exact ⟨P', c', by rw [hc', hc, List.length_append]; rfl, z2⟩
  have big : ∀ r ∈ (found.map (lclrF g j H) ++ [H]) ++ left.map (lclrF g j H), ∀ a ∈ r, TN g (k + (k + (4 + k) + k) + 1) a := fun r hr => by
    rcases List.mem_append.mp hr with q | q
    · rcases List.mem_append.mp q with q | q
      · obtain ⟨u, hu, rfl⟩ := List.mem_map.mp q
        exact (hf u (List.mem_append_left _ hu)).2.2
      · rw [List.mem_singleton.mp q]
        exact fun a ha => (htH a ha).mono (by omega)
    · obtain ⟨u, hu, rfl⟩ := List.mem_map.mp q
      exact (hf u (List.mem_append_right _ hu)).2.2
  have sm : ∀ r ∈ (found.map (lclrF g j H) ++ [H]) ++ left.map (lclrF g j H), ∀ a ∈ r, TN g k a := fun r hr a ha => by
    refine tn_small hg (big r hr a ha) hk fun e => ?_
    obtain ⟨P, c, hc, zz⟩ := z' e
    obtain ⟨hA, hb⟩ := hB e
    have hcn : c.length ≤ n := by
      rw [hc, List.length_append]
      have := s.hl
      show h.length + 1 ≤ n
      omega
    have := zz.bound hg e hcn hA r hr (big r hr) a ha
    omega
  have hb1 : er V H j = 1 := by
    refine V.cancel (z := er V v0 j) ?_ hn0
    rw [hh j]
    grind
  have hb0 : ∀ x, x < j → er V H x = 0 := fun x hx => by
    refine V.dom (x := er V v0 j) ?_ hn0
    have := hh x
    rw [s.nul v0 hv0 x hx] at this
    rw [← this]
    grind
  have hR := s.rr.step (k := j) (b := er V H) s.hd hb1 hb0
  have hmap : (found.map (lclrF g j H) ++ [H]).map (er V) = (found.map (er V)).map (clr j (er V H)) ++ [er V H] := by
    rw [List.map_append, List.map_map, List.map_map]
    congr 1
    exact List.map_congr_left fun r hr => (hf r (List.mem_append_left _ hr)).1
  have hH1 : InS (t.map (er V)) (er V H) := by
    obtain ⟨y, hy⟩ := V.inv _ hn0
    have e : er V H = fun x => y * er V v0 x := funext fun x => by
      rw [← hh x]
      grind
    rw [e]
    exact (InS.spc _).mul y _ (s.sp1 v0 (List.mem_append_right _ hv0))
  refine ⟨fun a ha => sm H (List.mem_append_left _ (List.mem_append_right _ (List.mem_singleton.mpr rfl))) a ha, ⟨fun r hr => ⟨?_, sm r (List.mem_append_left _ hr)⟩, fun r hr => ⟨?_, sm r (List.mem_append_right _ hr)⟩, by rw [hmap]; exact hR, fun p hp => ?_, ?_, fun r hr x hx => ?_, fun r hr => ?_, fun r hr => ?_⟩, z'⟩
  · rcases List.mem_append.mp hr with q | q
    · obtain ⟨u, hu, rfl⟩ := List.mem_map.mp q
      exact (hf u (List.mem_append_left _ hu)).2.1
    · rw [List.mem_singleton.mp q]
      exact hhl
  · obtain ⟨u, hu, rfl⟩ := List.mem_map.mp hr
    exact (hf u (List.mem_append_right _ hu)).2.1
  · rcases List.mem_append.mp hp with q | q
    · exact Nat.lt_succ_of_lt (s.hd p q)
    · rw [List.mem_singleton.mp q]
      exact Nat.lt_succ_self _
  · rw [List.length_append]
    have := s.hl
    show h.length + 1 ≤ j + 1
    omega
  · obtain ⟨u, hu, rfl⟩ := List.mem_map.mp hr
    rw [(hf u (List.mem_append_right _ hu)).1]
    by_cases e : x = j
    · subst e
      exact clr_at hb1
    · rw [clr_nul (hb0 x (by omega))]
      exact s.nul u hu x (by omega)
  · rcases List.mem_append.mp hr with q | q
    · rcases List.mem_append.mp q with q | q
      · obtain ⟨u, hu, rfl⟩ := List.mem_map.mp q
        rw [(hf u (List.mem_append_left _ hu)).1]
        exact clr_span (L := []) hH1 (s.sp1 u (List.mem_append_left _ hu))
      · rw [List.mem_singleton.mp q]
        exact hH1
    · obtain ⟨u, hu, rfl⟩ := List.mem_map.mp q
      rw [(hf u (List.mem_append_right _ hu)).1]
      exact clr_span (L := []) hH1 (s.sp1 u (List.mem_append_right _ hu))
  · refine (s.sp2 r hr).trans fun v hv => ?_
    obtain ⟨u, hu, rfl⟩ := List.mem_map.mp hv
    have hHm : InS (((found.map (lclrF g j H) ++ [H]) ++ left.map (lclrF g j H)).map (er V)) (er V H) := InS.mem (List.mem_map.mpr ⟨H, List.mem_append_left _ (List.mem_append_right _ (List.mem_singleton.mpr rfl)), rfl⟩)
    refine clr_back (k := j) hHm ?_
    rw [← (hf u hu).1]
    refine InS.mem (List.mem_map.mpr ⟨lclrF g j H u, ?_, rfl⟩)
    rcases List.mem_append.mp hu with q | q
    · exact List.mem_append_left _ (List.mem_append_left _ (List.mem_map.mpr ⟨u, q, rfl⟩))
    · exact List.mem_append_right _ (List.mem_map.mpr ⟨u, q, rfl⟩)
theorem Lst.done {k n : Nat} {t found left : List (List (Int × Int))} {h : List Nat} (s : Lst V k n n t found left h) : LeastR V n k t found := by
  refine ⟨s.fr, ⟨h, s.rr, s.hd⟩, fun r hr => s.sp1 r (List.mem_append_left _ hr), fun r hr => ?_⟩
  have h1 := s.sp2 r hr
  rw [List.map_append] at h1
  refine ins_nought h1 fun u hu => ?_
  obtain ⟨v, hv, rfl⟩ := List.mem_map.mp hu
  funext x
  by_cases hx : x < n
  · exact s.nul v hv x hx
  · exact er_out (by rw [(s.lr v hv).1]; omega)
end
end Fm

namespace Fm
open Lean.Grind PySem L2 Fr Fd
/-! ### rows beside ones; nought rows -/
def besF (t : List (List (Int × Int))) : List (List (Int × Int)) := List.zipWith (· ++ ·) t (onesF t.length)
section
variable {g : Int} {F : Type} [CommRing F]
/-- rows that are least ones, of numbers below 2^k -/
def LeastS (V : GV g F) (n k : Nat) (T : List (List (Int × Int))) : Prop := (∀ r ∈ T, r.length = n ∧ ∀ a ∈ r, TN g k a) ∧ ∃ h, Rr (T.map (er V)) h ∧ ∀ p ∈ h, p < n
theorem LeastR.ls {V : GV g F} {n k : Nat} {t T : List (List (Int × Int))} (h : LeastR V n k t T) : LeastS V n k T := ⟨h.row, h.rr⟩
/-- the same, told by the numbers alone -/
structure LeastN (n : Nat) (T : List (List (Int × Int))) (h : List Nat) : Prop where
  len : T.length = h.length
  row : ∀ r ∈ T, r.length = n
  inc : ∀ (i k p q : Nat), h[i]? = some p → h[k]? = some q → i < k → p < q
  lt : ∀ p ∈ h, p < n
  one : ∀ (i : Nat) (a : List (Int × Int)) (p : Nat), T[i]? = some a → h[i]? = some p → ga a p = (1, 1)
  nul : ∀ (i k : Nat) (a : List (Int × Int)) (p : Nat), T[i]? = some a → h[k]? = some p → i ≠ k → ga a p = (0, 1)
  ahead : ∀ (i : Nat) (a : List (Int × Int)) (p j : Nat), T[i]? = some a → h[i]? = some p → j < p → ga a j = (0, 1)
variable {V : GV g F}
theorem ga_tn (hg : g = 0 ∨ Gr5 g) {n k : Nat} {r : List (Int × Int)} (hr : ∀ a ∈ r, TN g k a) (hk : 4 ≤ k) (j : Nat) : TN g k (ga r j) := by
  by_cases hj : j < r.length
  · rw [ga_at hj]
    exact hr _ (List.getElem_mem hj)
  · have : ga r j = (0, 1) := by
      unfold ga
      rw [List.getD_eq_getElem?_getD, List.getElem?_eq_none (by omega)]
      rfl
    rw [this]
    exact (tn_zero hg).mono hk
theorem LeastS.num (hg : g = 0 ∨ Gr5 g) {n k : Nat} {T : List (List (Int × Int))} (h : LeastS V n k T) (hk : 4 ≤ k) : ∃ h, LeastN n T h := by
  obtain ⟨hrow, h, R, hlt⟩ := h
  have look : ∀ (i : Nat) (a : List (Int × Int)), T[i]? = some a → (T.map (er V))[i]? = some (er V a) ∧ a ∈ T := fun i a e => ⟨by rw [List.getElem?_map, e]; rfl, List.mem_of_getElem? e⟩
  refine ⟨h, by have := R.len; rw [List.length_map] at this; exact this, fun r hr => (hrow r hr).1, R.inc, hlt, fun i a p ha hp => ?_, fun i q a p ha hp hne => ?_, fun i a p j ha hp hj => ?_⟩
  · obtain ⟨h1, h2⟩ := look i a ha
    refine V.inj hg (ga_tn hg (n := n) (hrow a h2).2 hk p) (tn_one hg) ?_
    rw [V.one]
    exact R.one i _ p h1 hp
  · obtain ⟨h1, h2⟩ := look i a ha
    refine V.inj hg (ga_tn hg (n := n) (hrow a h2).2 hk p) (tn_zero hg) ?_
    rw [V.zero]
    exact R.nul i q _ p h1 hp hne
  · obtain ⟨h1, h2⟩ := look i a ha
    refine V.inj hg (ga_tn hg (n := n) (hrow a h2).2 hk j) (tn_zero hg) ?_
    rw [V.zero]
    exact R.ahead i _ p j h1 hp hj
theorem ones_get {m i : Nat} (hi : i < m) : (onesF m)[i]? = some ((List.range m).map fun j => (if i = j then 1 else 0, 1)) := by
  unfold onesF
  rw [List.getElem?_map, List.getElem?_range hi]
  rfl
theorem ga_ones {m i x : Nat} (hx : x < m) : ga ((List.range m).map fun j => ((if i = j then 1 else 0 : Int), (1 : Int))) x = (if i = x then 1 else 0, 1) := by
  unfold ga
  rw [List.getD_eq_getElem?_getD, List.getElem?_map, List.getElem?_range hx]
  rfl
theorem er_ones {m i x : Nat} (hx : x < m) : er V ((List.range m).map fun j => ((if i = j then 1 else 0 : Int), (1 : Int))) x = if i = x then 1 else 0 := by
  rw [er_ga, ga_ones hx]
  split
  · exact V.one
  · exact V.zero
/-- a row's first n places -/
def rst (n : Nat) (u : Row F) : Row F := fun x => if x < n then u x else 0
end
end Fm

namespace Fm
open PySem PySem.Spec PyProof.Rows L2 Fd
/-! ### lists of whole numbers, lists of these -/
def IL (H : Hp) (v : V) (r : List Int) : Prop := ∃ p, v = .ref p ∧ H p = some (.lst (r.map V.int))
theorem IL.sm {H H' : Hp} {v : V} {r : List Int} (h : IL H v r) (s : Same H H') : IL H' v r := by
  obtain ⟨p, e, hp⟩ := h
  exact ⟨p, e, s _ _ hp⟩
def ILs (H : Hp) (v : V) (rows : List (List Int)) : Prop := ∃ p xs, v = .ref p ∧ H p = some (.lst xs) ∧ Acc IL H xs rows rows.length
theorem ILs.sm {H H' : Hp} {v : V} {rows : List (List Int)} (h : ILs H v rows) (s : Same H H') : ILs H' v rows := by
  obtain ⟨p, xs, e, hp, ha⟩ := h
  exact ⟨p, xs, e, s _ _ hp, ha.mono fun x a h => h.sm s⟩
def ILn (D : Addr) (H : Hp) (v : V) (r : List Int) : Prop := ∃ p, v = .ref p ∧ p ≠ D ∧ H p = some (.lst (r.map V.int))
theorem ILn.sm {D : Addr} {H H' : Hp} {v : V} {r : List Int} (h : ILn D H v r) (s : Same H H') : ILn D H' v r := by
  obtain ⟨p, e, hn, hp⟩ := h
  exact ⟨p, e, hn, s _ _ hp⟩
theorem ILn.upd {D : Addr} {H : Hp} {v : V} {r : List Int} {o : HO} (h : ILn D H v r) : ILn D (L2.upd H D o) v r := by
  obtain ⟨p, e, hn, hp⟩ := h
  exact ⟨p, e, hn, by rw [upd_ne hn]; exact hp⟩
theorem ILn.il {D : Addr} {H : Hp} {v : V} {r : List Int} (h : ILn D H v r) : IL H v r := by
  obtain ⟨p, e, hn, hp⟩ := h
  exact ⟨p, e, hp⟩
theorem cut_take (xs : List V) (k : Nat) : cutV xs none (some (k : Int)) = xs.take k := by
  unfold cutV
  rw [HT.sIx_nat, HT.sIx_none, List.drop_zero, Nat.sub_zero]
  by_cases h : k ≤ xs.length
  · rw [Nat.min_eq_left h]
  · rw [Nat.min_eq_right (by omega), List.take_length, List.take_of_length_le (by omega)]
theorem cut_drop (xs : List V) (k : Nat) : cutV xs (some (k : Int)) none = xs.drop k := by
  unfold cutV
  rw [HT.sIx_nat, HT.sIx_none]
  by_cases h : k ≤ xs.length
  · rw [Nat.min_eq_left h, List.take_of_length_le (by rw [List.length_drop]; exact Nat.le_refl _)]
  · rw [Nat.min_eq_right (by omega), List.drop_length, List.drop_of_length_le (by omega), List.take_nil]
theorem w_slL {K : PySem.W.Frag} {H : Hp} {Q : VK} {p : Addr} {xs : List V} {lo hi : Option Int} (h : H p = some (.lst xs)) (q : ∀ q' H', H q' = none → Same H H' → H' q' = some (.lst (cutV xs lo hi)) → Q (.ref q') H') : rSlL K (.ref p) lo hi H Q := ⟨p, xs, rfl, SqL.of h, fun l hl => q l _ hl (same_upd hl) upd_same⟩
def tTruth (K : PySem.W.Frag) (ta : TE) : TT := fun σ H Q => ta σ H fun x H' => ∃ k, TruV K x H' k ∧ Q k H'
theorem pt_tru {X : Cx} {a : Expr} {ta : TE} (ha : PE X a ta) (he : ∀ whole, isTrue a X.env whole = (do let v ← whole; standAt a.pos; holding [v] (truthy v))) : PT X a (tTruth X.K ta) := pt_truth ha he
theorem w_tru {K : PySem.W.Frag} {ta : TE} {σ : L2.St} {H : Hp} {Q : Bool → Hp → Prop} (h : ta σ H fun x H' => ∃ k, TruV K x H' k ∧ Q k H') : tTruth K ta σ H Q := h
theorem acc_take {α : Type} {P : Hp → V → α → Prop} {H : Hp} {xs : List V} {as : List α} {n k : Nat} (h : Acc P H xs as n) (hl : n = as.length) : Acc P H (xs.take k) (as.take k) (as.take k).length := by
  refine ⟨by rw [List.length_take, List.length_take, h.1, hl], fun j x a h1 h2 => ?_⟩
  rw [List.getElem?_take] at h1 h2
  by_cases e : j < k
  · rw [if_pos e] at h1 h2
    exact h.2 j x a h1 h2
  · rw [if_neg e] at h1
    cases h1
theorem acc_drop {α : Type} {P : Hp → V → α → Prop} {H : Hp} {xs : List V} {as : List α} {n k : Nat} (h : Acc P H xs as n) (hl : n = as.length) : Acc P H (xs.drop k) (as.drop k) (as.drop k).length := by
  refine ⟨by rw [List.length_drop, List.length_drop, h.1, hl], fun j x a h1 h2 => ?_⟩
  rw [List.getElem?_drop] at h1 h2
  exact h.2 _ x a h1 h2
theorem acc_cat {α : Type} {P : Hp → V → α → Prop} {H : Hp} {xs ys : List V} {as bs : List α} (h : Acc P H xs as as.length) (h2 : Acc P H ys bs bs.length) : Acc P H (xs ++ ys) (as ++ bs) (as ++ bs).length := by
  refine ⟨by rw [List.length_append, List.length_append, h.1, h2.1], fun j x a e1 e2 => ?_⟩
  by_cases e : j < as.length
  · rw [List.getElem?_append_left (by rw [h.1]; exact e)] at e1
    rw [List.getElem?_append_left e] at e2
    exact h.2 j x a e1 e2
  · rw [List.getElem?_append_right (by rw [h.1]; omega), h.1] at e1
    rw [List.getElem?_append_right (by omega)] at e2
    exact h2.2 _ x a e1 e2
theorem erase_cut {α : Type} (xs : List α) (k : Nat) : xs.take k ++ xs.drop (k + 1) = xs.eraseIdx k := (List.eraseIdx_eq_take_drop_succ ..).symm
theorem gt_int {r : List Int} {j : Nat} (hj : j < r.length) : atI (r.map V.int) (j : Int) = some (.int (gt r j)) := by
  refine atI_nat ?_
  rw [List.getElem?_map, List.getElem?_eq_getElem hj]
  unfold gt
  rw [List.getD_eq_getElem?_getD, List.getElem?_eq_getElem hj]
  rfl
end Fm
namespace Fm
open PySem PySem.Spec PyProof.Rows L2
theorem acc_imp {α : Type} {P P' : Hp → V → α → Prop} {H H' : Hp} {ys : List V} {as : List α} {i : Nat} (h : Acc P H ys as i) (f : ∀ x a, P H x a → P' H' x a) : Acc P' H' ys as i := ⟨h.1, fun j x a h1 h2 => f x a (h.2 j x a h1 h2)⟩
end Fm
namespace Fm
/-- what lowest wants -/
theorem lowP {g u d : Int} {k : Nat} (hg : g = 0 ∨ Gr5 g) (hd : d ≠ 0) (h1 : g ≠ 0 → d.fmod g ≠ 0) (hu : u.natAbs < 2 ^ k) (hb : d.natAbs < 2 ^ k) (hk : k ≤ 8500) : (g = 0 ∧ d ≠ 0 ∧ d.natAbs < 2 ^ 8500) ∨ (3 ≤ g ∧ u.natAbs < 2 ^ 50000 ∧ ∃ k : Int, 1 ≤ k ∧ k ≤ 13 ∧ (k * d).fmod g = 1) := by
  rcases hg with e | h5
  · exact .inl ⟨e, hd, Nat.lt_of_lt_of_le hb (Nat.pow_le_pow_right (by decide) hk)⟩
  · have g3 : 3 ≤ g := by unfold Gr5 at h5; omega
    exact .inr ⟨g3, Nat.lt_of_lt_of_le hu (Nat.pow_le_pow_right (by decide) (by omega)), inv_of h5 (h1 (by omega))⟩
end Fm
namespace Fm
open Lean.Grind Fr Fd
end Fm

namespace L2
open PySem PySem.Spec PyProof.Rows
def tLenSetI (K : PySem.W.Frag) (ta : TE) : TE := fun σ H Q => ta σ H fun x H1 => ∃ (l : Addr) (ns : List Int), x = .ref l ∧ SqL K H1 l (ns.map V.int) ∧ ns.Nodup ∧ ns.length ≤ 1000 ∧ Q (.int (ns.length : Int)) H1
section
variable {X : Cx}
end
end L2
namespace Fm
open L2
theorem w_lenSetI {K : PySem.W.Frag} {ta : TE} {σ : L2.St} {H : Hp} {Q : VK} (h : ta σ H fun x H1 => ∃ (l : PySem.Addr) (ns : List Int), x = .ref l ∧ SqL K H1 l (ns.map V.int) ∧ ns.Nodup ∧ ns.length ≤ 1000 ∧ Q (.int (ns.length : Int)) H1) : tLenSetI K ta σ H Q := h
end Fm

namespace Fm
open Lean.Grind PySem PySem.Spec PyProof.Rows L2 Fr Fd
/-! ### words for the law of least rows -/
theorem w_eqTab {K : PySem.W.Frag} {H : Hp} {Q : VK} {v v' : V} {t t' : List (List (Int × Int))} (h1 : TabV H v t) (h2 : TabV H v' t') (e : t = t') (q : Q (.bl true) H) : rEqD K v v' H Q := by
  subst e
  have l := lay_row t
  have c : PyData.canLay0 (.tuple (t.map rowD)) = true := by rw [PyData.canLay0]; exact l.1
  have d : PyData.depth (.tuple (t.map rowD)) ≤ 64 := by rw [PyData.depth]; have := l.2; omega
  refine ⟨_, _, TabV.dp h1, TabV.dp h2, shaped_of c d, shaped_of c d, ?_⟩
  rw [SeqAt.eqv_refl _ c]
  exact q
theorem sqv_acc {α : Type} {P : Hp → V → α → Prop} {H : Hp} {v : V} {as : List α} (h : SqV P H v as) : ∃ p xs, v = .ref p ∧ H p = some (.tup xs) ∧ xs.length = as.length ∧ Acc P H xs as as.length := by
  obtain ⟨p, xs, e, hp, hl, hx⟩ := h
  exact ⟨p, xs, e, hp, hl, hl, hx⟩
theorem acc_sqv {α : Type} {P : Hp → V → α → Prop} {H : Hp} {p : Addr} {xs : List V} {as : List α} (hp : H p = some (.tup xs)) (h : Acc P H xs as as.length) : SqV P H (.ref p) as := ⟨p, xs, rfl, hp, h.1, h.2⟩
def nghtR (r : List (Int × Int)) : Bool := r.all fun a => decide (a.1 = 0)
theorem e_zero {g : Int} {F : Type} [CommRing F] {V : GV g F} (hg : g = 0 ∨ Gr5 g) {k : Nat} {a : Int × Int} (h : TN g k a) : V.e a = 0 ↔ a.1 = 0 := by
  obtain ⟨e1, n1⟩ := V.tn hg h
  constructor
  · intro z
    have : a = (0, 1) := V.inj hg h (tn_zero hg) (by rw [z, V.zero])
    rw [this]
  · intro z
    rw [z, V.i0] at e1
    refine V.dom (x := V.i a.2) ?_ n1
    rw [← e1]
    grind
theorem inc_len {n : Nat} : ∀ {h : List Nat} {b : Nat}, (∀ (i k p q : Nat), h[i]? = some p → h[k]? = some q → i < k → p < q) → (∀ p ∈ h, b ≤ p ∧ p < n) → b ≤ n → h.length + b ≤ n
  | [], b, _, _, hb => by rw [List.length_nil]; omega
  | p :: h, b, hi, hl, hb => by
    have hp := hl p List.mem_cons_self
    have := inc_len (n := n) (h := h) (b := p + 1) (fun i k a c ha hc hik => hi (i + 1) (k + 1) a c ha hc (by omega)) (fun q hq => by
      obtain ⟨i, e⟩ := List.getElem?_of_mem hq
      have := hi 0 (i + 1) p q rfl e (by omega)
      exact ⟨this, (hl q (List.mem_cons_of_mem _ hq)).2⟩) (by omega)
    rw [List.length_cons]
    omega
theorem LeastN.le {n : Nat} {T : List (List (Int × Int))} {h : List Nat} (L : LeastN n T h) : T.length ≤ n := by
  have := inc_len (n := n) (h := h) (b := 0) L.inc (fun p hp => ⟨Nat.zero_le _, L.lt p hp⟩) (Nat.zero_le _)
  rw [L.len]
  omega
/-! drawn numbers -/
def AA : Nat := 82575360
theorem w_enum {K : PySem.W.Frag} {ta : TA} {σ : L2.St} {H : Hp} {R : It → Hp → Prop} (h : ta σ H fun vs H1 => ∃ a xs, vs = [.ref a] ∧ SqL K H1 a xs ∧ R (Ite K a) H1) : iEnum K ta σ H R := h

end Fm

namespace L2
open PySem PySem.Spec PyProof.Rows
/-- n *= e -/
theorem ip_mulW {X : Cx} : PIp X .Mult (fun x y H Q => ∃ i j, x = .int i ∧ y = .int j ∧ CMulW i j ∧ Q (.int (i * j)) H) := by
  intro pins s σ H x y v u Q I r1 r2 h
  obtain ⟨i, j, e1, e2, hc, q⟩ := h
  subst e1; subst e2
  obtain ⟨t, rfl⟩ := r1
  obtain ⟨t', rfl⟩ := r2
  exact imul_int ⟨.int _, H, I.tok _, ⟨_, rfl⟩, q⟩ hc.ok
end L2
namespace Fr
open Lean.Grind
variable {F : Type} [CommRing F]
/-- rows whose determinant isn't nought: no sum of them is nought -/
theorem ker0 {A : List (Row F)} {cs : List Nat} (hl : A.length = cs.length) (x : Nat → F) (hz : ∀ j ∈ cs, SF (fun i => x i * (A.getD i zr) j) A.length = 0) : ∀ k, k < A.length → x k * dC A cs = 0 := fun k hk => by
  obtain ⟨e1, _⟩ := erase_parts (cs := A) (d := zr) hk
  have a := dC_alt cs (F := F)
  have hlen : (A.take k).length + (A.drop (k + 1)).length + 1 = cs.length := by rw [List.length_take, List.length_drop]; omega
  have h1 := a.sum hlen x (fun i => A.getD i zr) A.length
  have h2 : dC (A.take k ++ (fun j => SF (fun i => x i * (A.getD i zr) j) A.length) :: A.drop (k + 1)) cs = 0 := by
    have h3 := a.zero hlen
    rw [← h3]
    refine dC_congr cs _ _ (by rw [List.length_append, List.length_append]; rfl) fun i r s hr hs j hj => ?_
    by_cases hik : i < k
    · rw [List.getElem?_append_left (by rw [List.length_take]; omega)] at hr hs
      rw [Option.some.inj (hr.symm.trans hs)]
    · rw [List.getElem?_append_right (by rw [List.length_take]; omega)] at hr hs
      cases hd : i - (A.take k).length with
      | zero =>
        rw [hd] at hr hs
        rw [← Option.some.inj hr, ← Option.some.inj hs]
        exact hz j hj
      | succ d =>
        rw [hd] at hr hs
        rw [Option.some.inj (hr.symm.trans hs)]
  rw [h2] at h1
  have h4 : SF (fun i => x i * dC (A.take k ++ A.getD i zr :: A.drop (k + 1)) cs) A.length = x k * dC A cs := by
    have hs := SF_split (fun i => x i * dC (A.take k ++ A.getD i zr :: A.drop (k + 1)) cs) k (A.length - k - 1)
    rw [show k + 1 + (A.length - k - 1) = A.length by omega] at hs
    rw [hs, SF_nul (f := fun i => x i * dC (A.take k ++ A.getD i zr :: A.drop (k + 1)) cs) (n := k) fun i hi => ?_, SF_nul (f := fun i => x (k + 1 + i) * dC (A.take k ++ A.getD (k + 1 + i) zr :: A.drop (k + 1)) cs) fun i hi => ?_]
    · rw [← e1]
      grind
    · have hm : A.getD (k + 1 + i) zr ∈ A.drop (k + 1) := by
        have : (A.drop (k + 1))[i]? = some (A.getD (k + 1 + i) zr) := by
          rw [List.getElem?_drop, List.getD_eq_getElem?_getD, List.getElem?_eq_getElem (by omega)]
          rfl
        exact List.mem_of_getElem? this
      obtain ⟨p1, p2, e⟩ := List.append_of_mem hm
      have := a.twice (u := A.getD (k + 1 + i) zr) (A.take k) p1 p2 (by rw [e, List.length_append, List.length_cons] at hlen; omega)
      rw [e]
      rw [this]
      grind
    · have hm : A.getD i zr ∈ A.take k := by
        have : (A.take k)[i]? = some (A.getD i zr) := by
          rw [List.getElem?_take, if_pos hi, List.getD_eq_getElem?_getD, List.getElem?_eq_getElem (by omega)]
          rfl
        exact List.mem_of_getElem? this
      obtain ⟨p1, p2, e⟩ := List.append_of_mem hm
      have := a.twice (u := A.getD i zr) p1 p2 (A.drop (k + 1)) (by rw [e, List.length_append, List.length_cons] at hlen; omega)
      rw [e, List.append_assoc]
      show x i * dC (p1 ++ A.getD i zr :: (p2 ++ A.getD i zr :: A.drop (k + 1))) cs = 0
      rw [this]
      grind
  rw [h4] at h1
  exact h1.symm
end Fr
namespace Fm
open Lean.Grind PySem L2 Fr Fd
variable {g : Int} {F : Type} [CommRing F] {V : GV g F}
theorem i_SF (f : Nat → Int) : ∀ n, V.i (S f n) = SF (fun k => V.i (f k)) n
  | 0 => V.i0
  | n + 1 => by
    show V.i (S f n + f n) = SF (fun k => V.i (f k)) n + V.i (f n)
    rw [V.iadd, i_SF f n]
theorem i_sg (k : Nat) : V.i (sg k) = sF k := by
  unfold sg sF
  split
  · exact V.i1
  · rw [V.ineg, V.i1]
/-- whole determinants in the field -/
theorem dt_fr : ∀ (cs : List Nat) (P : List (List Int)), V.i (dt P cs) = dC (P.map (fr V)) cs
  | [], _ => V.i1
  | c :: cs, P => by
    show V.i (S (fun i => sg i * ent P i c * dt (P.eraseIdx i) cs) P.length) = SF (fun i => sF i * ((P.map (fr V)).getD i zr) c * dC ((P.map (fr V)).eraseIdx i) cs) (P.map (fr V)).length
    rw [i_SF, List.length_map]
    refine SF_congr fun i hi => ?_
    have e1 : (P.eraseIdx i).map (fr V) = (P.map (fr V)).eraseIdx i := by rw [List.eraseIdx_eq_take_drop_succ, List.eraseIdx_eq_take_drop_succ, List.map_append, List.map_take, List.map_drop]
    have q1 : P.getD i [] = P[i] := by rw [List.getD_eq_getElem?_getD, List.getElem?_eq_getElem hi]; rfl
    have q2 : (P.map (fr V)).getD i zr = fr V P[i] := by rw [List.getD_eq_getElem?_getD, List.getElem?_map, List.getElem?_eq_getElem hi]; rfl
    have e2 : V.i (ent P i c) = ((P.map (fr V)).getD i zr) c := by
      unfold ent
      rw [q1, q2]
      rfl
    rw [V.imul, V.imul, i_sg, e2, dt_fr cs (P.eraseIdx i), e1]
/-- the bottoms of rows, one after another -/
def prB (t : List (List (Int × Int))) : Int := t.foldl (fun b r => b * wrB r) 1
theorem prB_go : ∀ (t : List (List (Int × Int))) (b : Int), t.foldl (fun b r => b * wrB r) b = b * prB t
  | [], b => (Int.mul_one b).symm
  | r :: t, b => by
    show t.foldl (fun b r => b * wrB r) (b * wrB r) = b * t.foldl (fun b r => b * wrB r) (1 * wrB r)
    rw [prB_go t (b * wrB r), prB_go t (1 * wrB r)]
    grind
theorem prB_cons (r : List (Int × Int)) (t : List (List (Int × Int))) : prB (r :: t) = wrB r * prB t := by
  show t.foldl (fun b r => b * wrB r) (1 * wrB r) = _
  rw [prB_go]
  grind
theorem prB_take {t : List (List (Int × Int))} {i : Nat} {r : List (Int × Int)} (h : t[i]? = some r) : prB (t.take (i + 1)) = prB (t.take i) * wrB r := by
  unfold prB
  rw [List.take_add_one, h, Option.toList_some, List.foldl_append]
  rfl
theorem prB_ne {t : List (List (Int × Int))} (h : ∀ r ∈ t, ∀ a ∈ r, 0 < a.2) : 0 < prB t := by
  induction t with
  | nil => decide
  | cons r t ih =>
    rw [prB_cons]
    exact Int.mul_pos (wrB_spec (h r List.mem_cons_self)).1 (ih fun s hs => h s (List.mem_cons_of_mem _ hs))
theorem prB_le {A : Nat} {t : List (List (Int × Int))} (h : ∀ r ∈ t, (wrB r).natAbs ≤ A) : (prB t).natAbs ≤ A ^ t.length := by
  induction t with
  | nil => exact Nat.le_refl 1
  | cons r t ih =>
    rw [prB_cons, Int.natAbs_mul, List.length_cons, Nat.pow_succ, Nat.mul_comm (A ^ t.length)]
    exact Nat.mul_le_mul (h r List.mem_cons_self) (ih fun s hs => h s (List.mem_cons_of_mem _ hs))
/-- the determinant of a table by its rows as whole numbers -/
theorem dt_wr (hg : g = 0 ∨ Gr5 g) {k n : Nat} {t : List (List (Int × Int))} (hl : t.length = n) (ht : ∀ r ∈ t, ∀ a ∈ r, TN g k a) : V.i (dt (t.map wrT) (List.range n)) = V.i (prB t) * dC (t.map (er V)) (List.range n) ∧ V.i (prB t) ≠ 0 := by
  have h1 : dC ((t.map wrT).map (fr V)) (List.range n) = V.i (prB t) * dC (t.map (er V)) (List.range n) := by
    have key : ∀ (t : List (List (Int × Int))) (pre : List (Row F)), (∀ r ∈ t, ∀ a ∈ r, TN g k a) → pre.length + t.length = n → dC (pre ++ (t.map wrT).map (fr V)) (List.range n) = V.i (prB t) * dC (pre ++ t.map (er V)) (List.range n) := fun t => by
      induction t with
      | nil =>
        intro pre _ _
        show dC (pre ++ []) _ = V.i 1 * dC (pre ++ []) _
        rw [V.i1]
        grind
      | cons r t ih =>
        intro pre ht hl
        rw [List.length_cons] at hl
        have e := (wr_fr (V := V) hg (ht r List.mem_cons_self)).2
        have er' : fr V (wrT r) = fun j => V.i (wrB r) * er V r j := funext e
        have a := dC_alt (List.range n) (F := F)
        have h2 := a.mul pre (V.i (wrB r)) (er V r) ((t.map wrT).map (fr V)) (by rw [List.length_map, List.length_map, List.length_range]; omega)
        have h3 := ih (pre ++ [er V r]) (fun s hs => ht s (List.mem_cons_of_mem _ hs)) (by rw [List.length_append]; show pre.length + 1 + t.length = n; omega)
        simp only [List.append_assoc, List.singleton_append] at h3
        show dC (pre ++ fr V (wrT r) :: (t.map wrT).map (fr V)) _ = V.i (prB (r :: t)) * dC (pre ++ er V r :: t.map (er V)) _
        rw [er', prB_cons, V.imul]
        rw [h2, h3]
        grind
    exact key t [] ht (by rw [List.length_nil]; omega)
  refine ⟨by rw [dt_fr, h1], ?_⟩
  clear h1 hl
  induction t with
  | nil =>
    show V.i 1 ≠ 0
    rw [V.i1]
    exact V.ne
  | cons r t ih =>
    rw [prB_cons, V.imul]
    exact fun z => ih (fun s hs => ht s (List.mem_cons_of_mem _ hs)) (V.dom z (wr_fr (V := V) hg (ht r List.mem_cons_self)).1)
end Fm

namespace Fm
open Lean.Grind PySem L2 Fr Fd
/-! ### how great fractions are: by one bottom for all -/
/-- the fraction a is a whole number, no greater than M, over D -/
def Zd (D : Int) (M : Nat) (a : Int × Int) : Prop := ∃ z : Int, gvQ.e a * gvQ.i D = gvQ.i z ∧ z.natAbs ≤ M
/-- a number of the ground, of that size -/
def TZ (g D : Int) (M : Nat) (a : Int × Int) : Prop := (∃ l, 4 ≤ l ∧ TN g l a) ∧ (g = 0 → Zd D M a)
def PBe (a : Int × Int) : Prop := a.1.natAbs < 2 ^ 3900 ∧ a.2.natAbs < 2 ^ 3900 ∧ a.2 ≠ 0
theorem TN.be {g : Int} {k : Nat} {a : Int × Int} (h : TN g k a) (hk : k ≤ 3900) : PBe a := ⟨(h.mono hk).2.1, (h.mono hk).2.2, by have := h.pos; omega⟩
theorem TZ.tn {g D : Int} {M k : Nat} {a : Int × Int} (hg : g = 0 ∨ Gr5 g) (h : TZ g D M a) (hk : 4 ≤ k) (h0 : D ≠ 0) (hD : D.natAbs < 2 ^ k) (hM : M < 2 ^ k) : TN g k a := by
  obtain ⟨⟨l, _, hl⟩, hz⟩ := h
  refine tn_small hg hl hk fun e => ?_
  obtain ⟨z, ez, hzM⟩ := hz e
  subst e
  obtain ⟨b1, b2⟩ := tn_by (V := gvQ) (.inl rfl) rfl hl h0 ez
  omega
theorem TZ.mono {g D : Int} {M N : Nat} {a : Int × Int} (h : TZ g D M a) (hN : M ≤ N) : TZ g D N a := ⟨h.1, fun e => by
  obtain ⟨z, ez, hz⟩ := h.2 e
  exact ⟨z, ez, Nat.le_trans hz hN⟩⟩
theorem TZ.wide {g D : Int} {M : Nat} {a : Int × Int} (h : TZ g D M a) (c : Int) : TZ g (D * c) (M * c.natAbs) a := ⟨h.1, fun e => by
  obtain ⟨z, ez, hz⟩ := h.2 e
  refine ⟨z * c, ?_, by rw [Int.natAbs_mul]; exact Nat.mul_le_mul_right _ hz⟩
  rw [gvQ.imul, gvQ.imul, ← ez]
  grind⟩
theorem TZ.plus {g D : Int} {M N : Nat} {a c : Int × Int} (hg : g = 0 ∨ Gr5 g) (ha : TZ g D M a) (hc : TZ g D N c) : TZ g D (M + N) (plusF g a c) := by
  obtain ⟨⟨l, h4, hl⟩, hz⟩ := ha
  obtain ⟨⟨m, h5, hm⟩, hw⟩ := hc
  refine ⟨⟨_, by omega, tn_plus hg hl hm h4⟩, fun e => ?_⟩
  subst e
  obtain ⟨z, ez, hzM⟩ := hz rfl
  obtain ⟨y, ey, hyN⟩ := hw rfl
  refine ⟨z + y, ?_, by omega⟩
  rw [gvQ.plus (.inl rfl) hl hm, gvQ.iadd, ← ez, ← ey]
  grind
theorem TZ.times {g D D' : Int} {M N : Nat} {a c : Int × Int} (hg : g = 0 ∨ Gr5 g) (ha : TZ g D M a) (hc : TZ g D' N c) : TZ g (D * D') (M * N) (timesF g a c) := by
  obtain ⟨⟨l, h4, hl⟩, hz⟩ := ha
  obtain ⟨⟨m, h5, hm⟩, hw⟩ := hc
  refine ⟨⟨_, by omega, tn_times hg hl hm h4⟩, fun e => ?_⟩
  subst e
  obtain ⟨z, ez, hzM⟩ := hz rfl
  obtain ⟨y, ey, hyN⟩ := hw rfl
  refine ⟨z * y, ?_, by rw [Int.natAbs_mul]; exact Nat.mul_le_mul hzM hyN⟩
  rw [gvQ.times (.inl rfl) hl hm, gvQ.imul, gvQ.imul, ← ez, ← ey]
  grind
theorem TZ.minus {g D : Int} {M : Nat} {a : Int × Int} (hg : g = 0 ∨ Gr5 g) (ha : TZ g D M a) : TZ g D M (minusF g a) := by
  obtain ⟨⟨l, h4, hl⟩, hz⟩ := ha
  refine ⟨⟨_, h4, tn_minus hg hl h4⟩, fun e => ?_⟩
  subst e
  obtain ⟨z, ez, hzM⟩ := hz rfl
  refine ⟨-z, ?_, by omega⟩
  rw [gvQ.minus (.inl rfl) hl, gvQ.ineg, ← ez]
  grind
theorem TZ.zero {g : Int} (hg : g = 0 ∨ Gr5 g) (D : Int) (M : Nat) : TZ g D M (0, 1) := ⟨⟨4, Nat.le_refl _, tn_zero hg⟩, fun e => ⟨0, by rw [gvQ.zero, gvQ.i0]; grind, Nat.zero_le _⟩⟩
theorem TZ.one {g : Int} (hg : g = 0 ∨ Gr5 g) : TZ g 1 1 (1, 1) := ⟨⟨4, Nat.le_refl _, tn_one hg⟩, fun e => ⟨1, by rw [gvQ.one, gvQ.i1]; grind, by decide⟩⟩
/-- by a number's own bottom -/
theorem TZ.of {g : Int} {k : Nat} {a : Int × Int} (hg : g = 0 ∨ Gr5 g) (h : TN g k a) (hk : 4 ≤ k) : TZ g a.2 a.1.natAbs a := ⟨⟨k, hk, h⟩, fun e => by
  subst e
  exact ⟨a.1, (gvQ.tn (.inl rfl) h).1, Nat.le_refl _⟩⟩
/-- by any whole number that the bottom divides -/
theorem TZ.dvd {g D : Int} {k M : Nat} {a : Int × Int} (hg : g = 0 ∨ Gr5 g) (h : TN g k a) (hk : 4 ≤ k) (hd : a.2 ∣ D) (hM : a.1.natAbs * (D / a.2).natAbs ≤ M) : TZ g D M a := by
  obtain ⟨c, hc⟩ := hd
  have hp := h.pos
  have e : D / a.2 = c := by rw [hc]; exact Int.mul_ediv_cancel_left _ (by omega)
  rw [e] at hM
  rw [hc]
  exact ((TZ.of hg h hk).wide c).mono hM
/-- one over a number that isn't nought -/
theorem TZ.over {g D : Int} {M : Nat} {a c : Int × Int} {Dc : Int} {N : Nat} (hg : g = 0 ∨ Gr5 g) (ha : TZ g D M a) (hc : TZ g Dc N c) (h0 : c.1 ≠ 0) (hD0 : Dc ≠ 0) : ∃ z : Int, z ≠ 0 ∧ z.natAbs ≤ max N 1 ∧ TZ g (D * z) (M * Dc.natAbs) (ovrF g a c) := by
  obtain ⟨⟨l, h4, hl⟩, hz⟩ := ha
  obtain ⟨⟨m, h5, hm⟩, hw⟩ := hc
  have ht : ∃ l, 4 ≤ l ∧ TN g l (ovrF g a c) := ⟨_, by omega, tn_ovr hg hl hm h4 h0⟩
  by_cases e : g = 0
  · subst e
    obtain ⟨z, ez, hzM⟩ := hz rfl
    obtain ⟨y, ey, hyN⟩ := hw rfl
    have hec : gvQ.e c ≠ 0 := fun q => h0 ((e_zero (V := gvQ) (.inl rfl) hm).mp q)
    have hiD : gvQ.i Dc ≠ 0 := gvQ.ine hD0 fun q => absurd rfl q
    have y0 : y ≠ 0 := fun q => by
      rw [q, gvQ.i0] at ey
      exact hiD (gvQ.dom ey hec)
    refine ⟨y, y0, by omega, ht, fun _ => ⟨z * Dc, ?_, by rw [Int.natAbs_mul]; exact Nat.mul_le_mul_right _ hzM⟩⟩
    have ho := gvQ.over (.inl rfl) hl hm h0
    refine gvQ.cancel (z := gvQ.e c) ?_ hec
    rw [gvQ.imul, gvQ.imul, ← ez, ← ey]
    have ho' : gvQ.e (ovrF 0 a c) * gvQ.e c = gvQ.e a := ho
    grind
  · exact ⟨1, by decide, by show 1 ≤ max N 1; omega, ht, fun q => absurd q e⟩
/-- rows of such numbers -/
def RZ (g D : Int) (M n : Nat) (r : List (Int × Int)) : Prop := r.length = n ∧ ∀ a ∈ r, TZ g D M a
theorem rz_plus {g D : Int} {M N n : Nat} {r s : List (Int × Int)} (hg : g = 0 ∨ Gr5 g) (hr : RZ g D M n r) (hs : RZ g D N n s) : RZ g D (M + N) n (List.zipWith (plusF g) r s) := by
  refine ⟨by rw [List.length_zipWith, hr.1, hs.1]; omega, fun a ha => ?_⟩
  obtain ⟨x, hx, rfl⟩ := List.mem_iff_getElem.mp ha
  rw [List.length_zipWith] at hx
  rw [List.getElem_zipWith]
  exact (hr.2 _ (List.getElem_mem _)).plus hg (hs.2 _ (List.getElem_mem _))
theorem rz_times {g D D' : Int} {M N n : Nat} {r : List (Int × Int)} {c : Int × Int} (hg : g = 0 ∨ Gr5 g) (hr : RZ g D M n r) (hc : TZ g D' N c) : RZ g (D * D') (M * N) n (r.map fun a => timesF g a c) := by
  refine ⟨by rw [List.length_map, hr.1], fun a ha => ?_⟩
  obtain ⟨x, hx, rfl⟩ := List.mem_map.mp ha
  exact (hr.2 x hx).times hg hc
theorem rz_zero {g D : Int} {M n : Nat} (hg : g = 0 ∨ Gr5 g) : RZ g D M n (List.replicate n (0, 1)) := ⟨List.length_replicate, fun a ha => by rw [List.eq_of_mem_replicate ha]; exact TZ.zero hg D M⟩
theorem RZ.be {g D : Int} {M n k : Nat} {r : List (Int × Int)} (hg : g = 0 ∨ Gr5 g) (h : RZ g D M n r) (hk : 4 ≤ k) (hk2 : k ≤ 3900) (h0 : D ≠ 0) (hD : D.natAbs < 2 ^ k) (hM : M < 2 ^ k) : ∀ a ∈ r, PBe a := fun a ha => ((h.2 a ha).tn hg hk h0 hD hM).be hk2
section
variable {g : Int} {F : Type} [CommRing F] {V : GV g F}
theorem er_plus (hg : g = 0 ∨ Gr5 g) {D D' : Int} {M N n : Nat} {r s : List (Int × Int)} (hr : RZ g D M n r) (hs : RZ g D' N n s) : er V (List.zipWith (plusF g) r s) = fun j => er V r j + er V s j := funext fun j => by
  by_cases hj : j < n
  · have h1 : j < r.length := by rw [hr.1]; exact hj
    have h2 : j < s.length := by rw [hs.1]; exact hj
    obtain ⟨⟨l, _, hl⟩, _⟩ := hr.2 _ (List.getElem_mem h1)
    obtain ⟨⟨m, _, hm⟩, _⟩ := hs.2 _ (List.getElem_mem h2)
    rw [er_at (show j < (List.zipWith (plusF g) r s).length by rw [List.length_zipWith]; omega), List.getElem_zipWith, V.plus hg hl hm, er_at h1, er_at h2]
  · rw [er_out (show (List.zipWith (plusF g) r s).length ≤ j by rw [List.length_zipWith, hr.1]; omega), er_out (show r.length ≤ j by rw [hr.1]; omega), er_out (show s.length ≤ j by rw [hs.1]; omega)]
    grind
theorem er_times (hg : g = 0 ∨ Gr5 g) {D D' : Int} {M N n : Nat} {r : List (Int × Int)} {c : Int × Int} (hr : RZ g D M n r) (hc : TZ g D' N c) : er V (r.map fun a => timesF g a c) = fun j => V.e c * er V r j := funext fun j => by
  obtain ⟨⟨m, _, hm⟩, _⟩ := hc
  by_cases hj : j < n
  · have h1 : j < r.length := by rw [hr.1]; exact hj
    obtain ⟨⟨l, _, hl⟩, _⟩ := hr.2 _ (List.getElem_mem h1)
    rw [er_at (show j < (r.map fun a => timesF g a c).length by rw [List.length_map]; exact h1), List.getElem_map, V.times hg hl hm, er_at h1]
    grind
  · rw [er_out (show (r.map fun a => timesF g a c).length ≤ j by rw [List.length_map, hr.1]; omega), er_out (show r.length ≤ j by rw [hr.1]; omega)]
    grind
theorem er_zeros (n : Nat) : er V (List.replicate n (0, 1)) = fun _ => 0 := funext fun j => by
  have e : ga (List.replicate n ((0 : Int), (1 : Int))) j = (0, 1) := by
    by_cases hj : j < n
    · rw [ga_at (by rw [List.length_replicate]; exact hj), List.getElem_replicate]
    · unfold ga
      rw [List.getD_eq_getElem?_getD, List.getElem?_eq_none (by rw [List.length_replicate]; omega)]
      rfl
  rw [er_ga, e, V.zero]
end
end Fm

namespace PySem
open Sem (wp)
open AutoSeq1 (wpAny_loadPart')
section
variable {prog : Program} {w : World} {A : Around} {E : Value → Shared → Prop} {s : Shared}
end
end PySem
namespace L2
open PySem PySem.Spec PyProof.Rows
def IteT (K : PySem.W.Frag) (a : Addr) : It :=
  ⟨fun i H => ∃ (xs : List V) (x : V), SqT K H a xs ∧ xs[i]? = some x, fun i H v H' => ∃ T x, v = .ref T ∧ H T = none ∧ H' = upd H T (.tup [.int (i : Nat), x]) ∧ ∀ xs, SqT K H a xs → xs[i]? = some x, fun i H => ∃ xs : List V, SqT K H a xs ∧ xs.length = i⟩
def iEnumT (K : PySem.W.Frag) (ta : TA) : TI := fun σ H R => ta σ H fun vs H1 => ∃ a xs, vs = [.ref a] ∧ SqT K H1 a xs ∧ R (IteT K a) H1
end L2

namespace Fr
open Lean.Grind
variable {F : Type} [CommRing F]
theorem SF_comm (f : Nat → Nat → F) (m : Nat) : ∀ (n : Nat), SF (fun i => SF (fun j => f i j) m) n = SF (fun j => SF (fun i => f i j) n) m
  | 0 => (SF_zero m).symm
  | n + 1 => by
    show SF (fun i => SF (fun j => f i j) m) n + SF (fun j => f n j) m = SF (fun j => SF (fun i => f i j) n + f n j) m
    rw [SF_comm f m n, ← SF_add]
theorem Alt.clear2 {m : Nat} {f : List (Row F) → F} (a : Alt m f) {u r : Row F} {k : F} {pre post : List (Row F)} (hu : u ∈ post) (h : pre.length + post.length + 1 = m) : f (pre ++ (fun j => r j + k * u j) :: post) = f (pre ++ r :: post) := by
  rw [a.add pre r (fun j => k * u j) post h, a.mul pre k u post h]
  obtain ⟨p1, p2, rfl⟩ := List.append_of_mem hu
  rw [List.length_append, List.length_cons] at h
  rw [a.twice (u := u) pre p1 p2 (by omega)]
  grind
/-- one at a place alone -/
theorem SF_one {n i : Nat} (hi : i < n) (f : Nat → F) (hz : ∀ k, k < n → k ≠ i → f k = 0) : SF f n = f i := by
  have hs := SF_split f i (n - i - 1)
  rw [show i + 1 + (n - i - 1) = n by omega] at hs
  rw [hs, SF_nul (f := f) (n := i) fun k hk => hz k (by omega) (by omega), SF_nul (f := fun k => f (i + 1 + k)) fun k hk => hz _ (by omega) (by omega)]
  grind
theorem thr_unit {B : List (Row F)} {i : Nat} (hi : i < B.length) : thr B (unit i) = B.getD i zr := by
  funext j
  show SF (fun k => unit i k * (B.getD k zr) j) B.length = _
  rw [SF_one hi _ fun k _ hk => by
    unfold unit
    rw [if_neg hk]
    grind]
  unfold unit
  rw [if_pos rfl]
  grind
theorem thr_add (B : List (Row F)) (u v : Row F) : thr B (fun j => u j + v j) = fun j => thr B u j + thr B v j := funext fun j => by
  show SF (fun i => (u i + v i) * (B.getD i zr) j) B.length = SF (fun i => u i * (B.getD i zr) j) B.length + SF (fun i => v i * (B.getD i zr) j) B.length
  rw [← SF_add]
  exact SF_congr fun i _ => by grind
theorem thr_mul (B : List (Row F)) (c : F) (u : Row F) : thr B (fun j => c * u j) = fun j => c * thr B u j := funext fun j => by
  show SF (fun i => c * u i * (B.getD i zr) j) B.length = c * SF (fun i => u i * (B.getD i zr) j) B.length
  rw [← SF_mul]
  exact SF_congr fun i _ => by grind
/-- the product of two rows by a table -/
def bil (T : List (Row F)) (m : Nat) (u v : Row F) : F := SF (fun j => thr T u j * v j) m
def SymF (T : List (Row F)) (m : Nat) : Prop := ∀ i j, i < m → j < m → (T.getD i zr) j = (T.getD j zr) i
theorem getD_map {α : Type} {f : α → Row F} {t : List α} {i : Nat} {a : α} (h : t[i]? = some a) : (t.map f).getD i zr = f a := by
  rw [List.getD_eq_getElem?_getD, List.getElem?_map, h]
  rfl
theorem getD_thr {A B : List (Row F)} {i : Nat} (hi : i < A.length) : (A.map (thr B)).getD i zr = thr B (A.getD i zr) := by
  rw [List.getD_eq_getElem?_getD, List.getD_eq_getElem?_getD, List.getElem?_map, List.getElem?_eq_getElem hi]
  rfl
/-- by other letters: still the same turned -/
theorem sym_step {P T Q : List (Row F)} {m : Nat} (hP : P.length = m) (hT : T.length = m) (hQ : Q.length = m) (hs : SymF T m) (hPQ : ∀ i j, i < m → j < m → (Q.getD j zr) i = (P.getD i zr) j) : SymF ((P.map (thr T)).map (thr Q)) m := fun i j hi hj => by
  have key : ∀ i j, i < m → j < m → (((P.map (thr T)).map (thr Q)).getD i zr) j = SF (fun b => SF (fun a => (P.getD i zr) a * (T.getD a zr) b * (P.getD j zr) b) m) m := fun i j hi hj => by
    rw [getD_thr (by rw [List.length_map]; omega), getD_thr (by omega)]
    show SF (fun b => SF (fun a => (P.getD i zr) a * (T.getD a zr) b) T.length * (Q.getD b zr) j) Q.length = _
    rw [hQ, hT]
    refine SF_congr fun b hb => ?_
    rw [hPQ j b hj hb]
    have : SF (fun a => (P.getD i zr) a * (T.getD a zr) b) m * (P.getD j zr) b = (P.getD j zr) b * SF (fun a => (P.getD i zr) a * (T.getD a zr) b) m := by grind
    rw [this, ← SF_mul]
    exact SF_congr fun a _ => by grind
  rw [key i j hi hj, key j i hj hi, SF_comm]
  refine SF_congr fun a ha => SF_congr fun b hb => ?_
  rw [hs a b ha hb]
  grind
theorem det_step {P T Q : List (Row F)} {m : Nat} (hP : P.length = m) (hT : T.length = m) (hQ : Q.length = m) (hPQ : ∀ i j, i < m → j < m → (Q.getD j zr) i = (P.getD i zr) j) : dC ((P.map (thr T)).map (thr Q)) (List.range m) = dC P (List.range m) * dC T (List.range m) * dC P (List.range m) := by
  have hlr : (List.range m).length = m := List.length_range
  rw [dC_mul (n := m) (by rw [List.length_map]; exact hP) hQ hlr, dC_mul (n := m) hP hT hlr]
  have e : dC Q (List.range m) = dC P (List.range m) := by
    rw [dC_dR (rs := P) (by rw [hlr]; exact hP) List.nodup_range]
    refine (dR_turn P (List.range m) Q (List.range m) (by rw [hlr]; exact hQ) (by rw [hlr]; exact hP.symm) fun i k a c r t hr ha hc ht => ?_).symm
    have hi := (List.getElem?_eq_some_iff.mp ha).1
    have hk := (List.getElem?_eq_some_iff.mp hc).1
    rw [hlr] at hi hk
    rw [List.getElem?_range hi] at ha
    rw [List.getElem?_range hk] at hc
    cases Option.some.inj ha
    cases Option.some.inj hc
    have := hPQ i k hi hk
    rw [List.getD_eq_getElem?_getD, List.getD_eq_getElem?_getD, hr, ht] at this
    exact this.symm
  rw [e]
/-- ones with one number more -/
theorem det_elem {m i j : Nat} (hi : i < m) (hj : j < m) (hij : i ≠ j) (x : F) : dC (((List.range m).map unit).set i (fun c => unit i c + x * unit j c)) (List.range m) = 1 := by
  have hlr : (List.range m).length = m := List.length_range
  have hl : i < ((List.range m).map (unit (F := F))).length := by rw [List.length_map, hlr]; exact hi
  obtain ⟨e1, _⟩ := erase_parts (cs := (List.range m).map (unit (F := F))) (d := zr) hl
  have eg : ((List.range m).map (unit (F := F))).getD i zr = unit i := getD_map (List.getElem?_range hi)
  rw [eg] at e1
  have es : ((List.range m).map (unit (F := F))).set i (fun c => unit i c + x * unit j c) = ((List.range m).map (unit (F := F))).take i ++ (fun c => unit i c + x * unit j c) :: ((List.range m).map (unit (F := F))).drop (i + 1) := by
    rw [List.set_eq_take_append_cons_drop, if_pos hl]
  have a := dC_alt (List.range m) (F := F)
  have hlen : (((List.range m).map (unit (F := F))).take i).length + (((List.range m).map (unit (F := F))).drop (i + 1)).length + 1 = (List.range m).length := by
    rw [List.length_take, List.length_drop, List.length_map, hlr]
    omega
  have hu := dC_units (F := F) (List.range m) List.nodup_range
  rw [es]
  have hfin : dC (((List.range m).map (unit (F := F))).take i ++ unit i :: ((List.range m).map (unit (F := F))).drop (i + 1)) (List.range m) = 1 := by
    rw [← e1]
    exact hu
  rw [← hfin]
  have gj : ((List.range m).map (unit (F := F)))[j]? = some (unit j) := by rw [List.getElem?_map, List.getElem?_range hj]; rfl
  by_cases h : j < i
  · refine a.clear1 ?_ hlen
    have : (((List.range m).map (unit (F := F))).take i)[j]? = some (unit j) := by rw [List.getElem?_take, if_pos h]; exact gj
    exact List.mem_of_getElem? this
  · refine a.clear2 ?_ hlen
    have : (((List.range m).map (unit (F := F))).drop (i + 1))[j - (i + 1)]? = some (unit j) := by rw [List.getElem?_drop, show i + 1 + (j - (i + 1)) = j by omega]; exact gj
    exact List.mem_of_getElem? this
/-- from corner to corner -/
theorem det_diag {m : Nat} (d : Nat → F) : dC ((List.range m).map fun i c => d i * unit i c) (List.range m) = ((List.range m).map d).foldr (· * ·) 1 := by
  have go : ∀ (is : List Nat) (pre : List (Row F)), pre.length + is.length = m → dC (pre ++ is.map fun i c => d i * unit i c) (List.range m) = (is.map d).foldr (· * ·) 1 * dC (pre ++ is.map unit) (List.range m) := fun is => by
    induction is with
    | nil =>
      intro pre _
      show dC (pre ++ []) _ = 1 * dC (pre ++ []) _
      grind
    | cons i is ih =>
      intro pre h
      rw [List.length_cons] at h
      have h1 := (dC_alt (List.range m) (F := F)).mul pre (d i) (unit i) (is.map fun i c => d i * unit i c) (by rw [List.length_map, List.length_range]; omega)
      have h2 := ih (pre ++ [unit i]) (by rw [List.length_append]; show pre.length + 1 + is.length = m; omega)
      simp only [List.append_assoc, List.singleton_append] at h2
      show dC (pre ++ (fun c => d i * unit i c) :: is.map fun i c => d i * unit i c) _ = d i * (is.map d).foldr (· * ·) 1 * dC (pre ++ unit i :: is.map unit) _
      rw [h1, h2]
      grind
  have := go (List.range m) [] (by rw [List.length_nil, List.length_range]; omega)
  rw [List.nil_append, List.nil_append, dC_units _ List.nodup_range] at this
  rw [this]
  grind
end Fr

namespace Fm
open Lean.Grind PySem L2 Fr Fd
section
variable {g : Int} {F : Type} [CommRing F] {V : GV g F}
/-- a form's table: the same turned, not flat -/
structure FrmT (W : GV g F) (D : Int) (M m : Nat) (t : List (List (Int × Int))) : Prop where
  len : t.length = m
  row : ∀ r ∈ t, RZ g D M m r
  sym : SymF (t.map (er W)) m
  det : dC (t.map (er W)) (List.range m) ≠ 0
theorem tz_low1 (hg : g = 0 ∨ Gr5 g) (u : Int) (hu : u.natAbs < 2 ^ 4) : TZ g 1 u.natAbs (lowF g u 1) := by
  have hf : g ≠ 0 → (1 : Int).fmod g ≠ 0 := fun z => one_fmod (hg.resolve_left z)
  refine ⟨⟨4, Nat.le_refl _, tn_low hg (by decide) hf (Nat.le_refl _) hu (by decide)⟩, fun e => ?_⟩
  subst e
  exact ⟨u, gvQ.low (.inl rfl) (by decide) fun z => absurd rfl z, Nat.le_refl _⟩
theorem ng_tz (hg : g = 0 ∨ Gr5 g) {a : Int × Int} (h : NG g 0 a) (ht : TN g 7 a) : TZ g 2520 161280 a := by
  refine TZ.dvd hg ht (by decide) h.2.1 ?_
  have h1 := h.2.2.1
  have hp := h.1
  obtain ⟨c, hc⟩ := h.2.1
  have e : (2520 : Int) / a.2 = c := by rw [hc]; exact Int.mul_ediv_cancel_left _ (by omega)
  rw [e]
  have h2 : a.2.natAbs * c.natAbs = 2520 := by
    have := congrArg Int.natAbs hc
    rw [Int.natAbs_mul] at this
    exact this.symm
  calc a.1.natAbs * c.natAbs ≤ 64 * 2 ^ 0 * a.2.natAbs * c.natAbs := Nat.mul_le_mul_right _ h1
    _ = 64 * 2 ^ 0 * 2520 := by rw [Nat.mul_assoc, h2]
    _ = 161280 := by decide
theorem er_onesrow {m k : Nat} (hk : k < m) : er V ((List.range m).map fun j => ((if k = j then 1 else 0 : Int), (1 : Int))) = unit k := funext fun c => by
  by_cases hc : c < m
  · rw [er_ones hc]
    unfold unit
    by_cases e : k = c
    · rw [if_pos e, if_pos e.symm]
    · rw [if_neg e, if_neg fun z => e z.symm]
  · rw [er_out (by rw [List.length_map, List.length_range]; omega)]
    unfold unit
    rw [if_neg (by omega)]
theorem er_onesF (m : Nat) : (onesF m).map (er V) = (List.range m).map unit := by
  unfold onesF
  rw [List.map_map]
  exact List.map_congr_left fun k hk => er_onesrow (List.mem_range.mp hk)
theorem rz_onesrow (hg : g = 0 ∨ Gr5 g) {m k : Nat} : RZ g 1 1 m ((List.range m).map fun j => ((if k = j then 1 else 0 : Int), (1 : Int))) := by
  refine ⟨by rw [List.length_map, List.length_range], fun a ha => ?_⟩
  obtain ⟨j, _, rfl⟩ := List.mem_map.mp ha
  split
  · exact TZ.one hg
  · exact TZ.zero hg _ _
theorem rz_ones (hg : g = 0 ∨ Gr5 g) {m : Nat} : ∀ r ∈ onesF m, RZ g 1 1 m r := fun r hr => by
  unfold onesF at hr
  obtain ⟨k, _, rfl⟩ := List.mem_map.mp hr
  exact rz_onesrow hg
theorem er_set {r : List (Int × Int)} {j : Nat} {a : Int × Int} (hj : j < r.length) : er V (r.set j a) = fun c => if c = j then V.e a else er V r c := funext fun c => by
  rw [er_ga, er_ga]
  unfold ga
  rw [List.getD_eq_getElem?_getD, List.getD_eq_getElem?_getD, List.getElem?_set]
  by_cases e : j = c
  · subst e
    rw [if_pos rfl, if_pos rfl, if_pos hj]
    rfl
  · rw [if_neg e, if_neg fun z => e z.symm]
/-- ones with one number more -/
theorem er_step {m i j : Nat} (hi : i < m) (hj : j < m) (hij : i ≠ j) (a : Int × Int) : ((onesF m).set i (((List.range m).map fun c => ((if i = c then 1 else 0 : Int), (1 : Int))).set j a)).map (er V) = ((List.range m).map unit).set i (fun c => unit i c + V.e a * unit j c) := by
  rw [List.map_set, er_onesF]
  congr 1
  rw [er_set (by rw [List.length_map, List.length_range]; exact hj), er_onesrow hi]
  funext c
  unfold unit
  by_cases e : c = j
  · subst e
    rw [if_pos rfl, if_pos rfl, if_neg (fun z => hij z.symm)]
    grind
  · rw [if_neg e, if_neg e]
    grind
theorem FrmT.step (hg : g = 0 ∨ Gr5 g) {W : GV g F} {D D' : Int} {M M' m : Nat} {t P T1 T2 : List (List (Int × Int))} (f : FrmT W D M m t) (hP : P.length = m) (hdP : dC (P.map (er W)) (List.range m) ≠ 0) (hPr : ∀ r ∈ P, r.length = m)
    (h1 : T1.map (er W) = (P.map (er W)).map (thr (t.map (er W)))) (h2 : T2.map (er W) = (T1.map (er W)).map (thr ((turnF m P).map (er W)))) (hl : T2.length = m) (hr : ∀ r ∈ T2, RZ g D' M' m r) : FrmT W D' M' m T2 := by
  have hlQ : ((turnF m P).map (er W)).length = m := by unfold turnF; rw [List.length_map, List.length_map, List.length_range]
  have hPQ : ∀ i j, i < m → j < m → (((turnF m P).map (er W)).getD j zr) i = ((P.map (er W)).getD i zr) j := fun i j hi hj => by
    rw [getD_map (turn_at hj), getD_map (List.getElem?_eq_getElem (show i < P.length by omega)), er_at (show i < (P.map fun row => row.getD j (0, 1)).length by rw [List.length_map]; omega), List.getElem_map, er_ga]
  refine ⟨hl, hr, ?_, ?_⟩
  · rw [h2, h1]
    exact sym_step (by rw [List.length_map]; exact hP) (by rw [List.length_map]; exact f.len) hlQ f.sym hPQ
  · rw [h2, h1, det_step (by rw [List.length_map]; exact hP) (by rw [List.length_map]; exact f.len) hlQ hPQ]
    intro z
    have z1 := W.dom (x := dC (P.map (er W)) (List.range m) * dC (t.map (er W)) (List.range m)) z
    have hne : dC (P.map (er W)) (List.range m) * dC (t.map (er W)) (List.range m) ≠ 0 := fun y => f.det (W.dom y hdP)
    exact hdP (z1 hne)
theorem two_ne (hg : g = 0 ∨ Gr5 g) (W : GV g F) : ∀ x : F, x + x = 0 → x = 0 := fun x h => by
  have h2 : W.i 2 ≠ 0 := W.ine (by decide) fun z => by
    have h5 := hg.resolve_left z
    unfold Gr5 at h5
    rcases h5 with rfl | rfl | rfl | rfl | rfl <;> decide
  have e : W.i 2 * x = 0 := by
    rw [show (2 : Int) = 1 + 1 from rfl, W.iadd, W.i1]
    grind
  exact W.dom e h2
/-- numbers from corner to corner -/
def diagF (d : List (Int × Int)) : List (List (Int × Int)) := (List.range d.length).map fun i => (List.range d.length).map fun j => if i = j then d.getD i (0, 1) else (0, 1)
theorem diag_frm (hg : g = 0 ∨ Gr5 g) (W : GV g F) {D : Int} {M m k : Nat} {d : List (Int × Int)} (hl : d.length = m) (hd : ∀ a ∈ d, TZ g D M a ∧ TN g k a ∧ a.1 ≠ 0) : FrmT W D M m (diagF d) := by
  have hlen : (diagF d).length = m := by unfold diagF; rw [List.length_map, List.length_range, hl]
  have hget : ∀ i, i < m → (diagF d)[i]? = some ((List.range m).map fun j => if i = j then d.getD i (0, 1) else (0, 1)) := fun i hi => by
    unfold diagF
    rw [List.getElem?_map, hl, List.getElem?_range hi]
    rfl
  have her : ∀ i, i < m → er W ((List.range m).map fun j => if i = j then d.getD i (0, 1) else (0, 1)) = fun c => W.e (d.getD i (0, 1)) * unit i c := fun i hi => funext fun c => by
    by_cases hc : c < m
    · rw [er_at (show c < ((List.range m).map fun j => if i = j then d.getD i (0, 1) else (0, 1)).length by rw [List.length_map, List.length_range]; exact hc), List.getElem_map, List.getElem_range]
      unfold unit
      by_cases e : i = c
      · rw [if_pos e, if_pos e.symm]
        grind
      · rw [if_neg e, if_neg fun z => e z.symm, W.zero]
        grind
    · rw [er_out (by rw [List.length_map, List.length_range]; omega)]
      unfold unit
      rw [if_neg (by omega)]
      grind
  have hmap : (diagF d).map (er W) = (List.range m).map fun i c => W.e (d.getD i (0, 1)) * unit i c := by
    refine List.ext_getElem? fun i => ?_
    rw [List.getElem?_map, List.getElem?_map]
    by_cases hi : i < m
    · rw [hget i hi, List.getElem?_range hi]
      show some (er W _) = _
      rw [her i hi]
      rfl
    · rw [List.getElem?_eq_none (by omega), List.getElem?_eq_none (by rw [List.length_range]; omega)]
      rfl
  refine ⟨hlen, fun r hr => ?_, fun i j hi hj => ?_, ?_⟩
  · obtain ⟨i, hi⟩ := List.getElem?_of_mem hr
    have hil := (List.getElem?_eq_some_iff.mp hi).1
    rw [hget i (by omega)] at hi
    cases Option.some.inj hi
    refine ⟨by rw [List.length_map, List.length_range], fun a ha => ?_⟩
    obtain ⟨j, _, rfl⟩ := List.mem_map.mp ha
    split
    · rw [List.getD_eq_getElem?_getD, List.getElem?_eq_getElem (show i < d.length by omega)]
      exact (hd _ (List.getElem_mem _)).1
    · exact TZ.zero hg _ _
  · rw [hmap, getD_map (List.getElem?_range hi), getD_map (List.getElem?_range hj)]
    show W.e (d.getD i (0, 1)) * unit i j = W.e (d.getD j (0, 1)) * unit j i
    unfold unit
    by_cases e : i = j
    · rw [e]
    · rw [if_neg fun z => e z.symm, if_neg e]
      grind
  · rw [hmap, det_diag]
    have go : ∀ is : List Nat, (∀ i ∈ is, i < m) → (is.map fun i => W.e (d.getD i (0, 1))).foldr (· * ·) 1 ≠ 0 := fun is => by
      induction is with
      | nil => exact fun _ => W.ne
      | cons i is ih =>
        intro h z
        have hi := h i List.mem_cons_self
        have hne : W.e (d.getD i (0, 1)) ≠ 0 := by
          rw [List.getD_eq_getElem?_getD, List.getElem?_eq_getElem (show i < d.length by omega)]
          have := hd _ (List.getElem_mem (show i < d.length by omega))
          exact fun y => this.2.2 ((e_zero hg this.2.1).mp y)
        exact ih (fun j hj => h j (List.mem_cons_of_mem _ hj)) (W.dom z hne)
    exact go _ fun i hi => List.mem_range.mp hi
end
/-- the rows behind the first without a column -/
def minF (k : Nat) (t : List (List (Int × Int))) : List (List (Int × Int)) := (t.drop 1).map fun r => r.eraseIdx k
def waysM (M : Nat) : Nat → Nat
  | 0 => 1
  | d + 1 => (d + 1) * (M * waysM M d)
theorem w_enumT {K : PySem.W.Frag} {ta : TA} {σ : L2.St} {H : Hp} {R : It → Hp → Prop} (h : ta σ H fun vs H1 => ∃ a xs, vs = [.ref a] ∧ SqT K H1 a xs ∧ R (IteT K a) H1) : iEnumT K ta σ H R := h
end Fm

namespace PySem
namespace Fm6
open PySem.W PySem.Calls PyProof.Rows Builtin Builtin.ObjectAttr
/-- the two rows of such an __init__ -/
abbrev iBodyF (txt sf fld par : Str) (p0 p1 p2 p3 p4 p5 p6 p7 p8 q0 q1 q2 q3 : Pos) (j : Nat) : List Stmt :=
  [.Expr (.Call (.Attribute (.Call (.Name "super" p0) [] [] p1) "__init__" p2) [.JoinedStr [.Constant (.str txt) j p5, .FormattedValue (.Name par p6) (-1) none p7] p8] [] p3) p4, .Assign [.Attribute (.Name sf q0) fld q1] (.Name par q2) q3]
section
variable {prog : Program} {w : World} {A : Around} {E : Value → Shared → Prop} {h : Heap} {g : Array GenState} {d : Drawn} {t : Nat} {os : OsState} {B ini newId : String} {tl : List Value} {K : Frag}
variable {nm q : Str} {C N : Addr} {bs : List Value} {sn : List Str} {sub : List Value} {ab : Bool} {col : Option Bool} {dd : Option Addr} {k0 k1 k2 k3 k5 : Option Value}
end
end Fm6
end PySem
namespace L2
open PySem PySem.Spec PyProof.Rows PySem.W PySem.Fm6
/-- what such an __init__ promises -/
def spInitF (C : Addr) (fld : Str) : Sp := fun vs H Q _ => ∃ (a : Addr) (n : Nat), vs = [.ref a, .int (n : Nat)] ∧ n < 10 ∧ H a = some (exo a C none) ∧ ∀ dx, H dx = none → dx ≠ a → Q .non (upd (upd H dx (exd dx [(fld, .int (n : Nat))])) a (exo a C (some dx)))
section
variable {P : Program} {w : World} {K : Frag} {mg : Str → Option Value} {base : Heap} {CX : CXT} {k : Nat} {B ini newId : String} {tl : List Value} {C : Addr}
end
end L2
namespace Fm
open PySem PySem.Spec PyProof.Rows L2 PySem.Fm6
/-- what is known of Flat where it is raised -/
structure FlatC (P : Program) (w : World) (K : PySem.W.Frag) (mg : Str → Option Value) (base : Heap) (fI : Addr) (fd : FuncData) : Prop where
  T : OexB K (He.ga K "Flat") "ArithmeticError.__new__" [.type "ArithmeticError", .type "Exception", .type "BaseException", .type "object"]
  i : PySem.W.findIn K (.ref (He.ga K "Flat")) "__init__" = some (some (.ref fI))
  ty : PySem.W.typeIn K (.ref fI) = some (.type "function")
  fn : FnOk P w K mg base C8.CX0 1 fI fd ["self", "rank"] (spInitF (He.ga K "Flat") "rank")
  b : Binds K fd ["self", "rank"] []
  g : mg "Flat" = some (.ref (He.ga K "Flat"))
end Fm

namespace Fr
open Lean.Grind
variable {F : Type} [CommRing F]
/-- nought where a row is in the span of those behind -/
theorem det_span {cs : List Nat} {pre post : List (Row F)} {v : Row F} (hl : pre.length + post.length + 1 = cs.length) (h : InS post v) : dC (pre ++ v :: post) cs = 0 := by
  have a := dC_alt cs (F := F)
  refine h (fun v => dC (pre ++ v :: post) cs = 0) ⟨a.zero hl, fun u w hu hw => ?_, fun c u hu => ?_⟩ fun r hr => ?_
  · rw [a.add pre u w post hl, hu, hw]
    grind
  · rw [a.mul pre c u post hl, hu]
    grind
  · obtain ⟨p1, p2, rfl⟩ := List.append_of_mem hr
    rw [List.length_append, List.length_cons] at hl
    exact a.twice pre p1 p2 (by omega)
end Fr
namespace Fm
open Lean.Grind PySem L2 Fr Fd
section
variable {g : Int} {F : Type} [CommRing F] {V : GV g F}
/-! ### sizes of a back -/
theorem zd_iff {F' : Type} [CommRing F'] {V : GV 0 F} {W : GV 0 F'} {k : Nat} {a : Int × Int} (h : TN 0 k a) {D z : Int} (e : V.e a * V.i D = V.i z) : a.1 * D = z * a.2 ∧ W.e a * W.i D = W.i z := by
  obtain ⟨e1, n1⟩ := V.tn (.inl rfl) h
  have e2 : a.1 * D = z * a.2 := ei_z (V := V) rfl (by rw [V.imul, V.imul, ← e1, ← e]; grind)
  obtain ⟨e3, n3⟩ := W.tn (.inl rfl) h
  refine ⟨e2, W.cancel (z := W.i a.2) ?_ n3⟩
  rw [← W.imul, ← e2, W.imul, ← e3]
  grind
theorem TZ.val {V : GV 0 F} {D : Int} {M : Nat} {a : Int × Int} (h : TZ 0 D M a) : ∃ z : Int, a.1 * D = z * a.2 ∧ V.e a * V.i D = V.i z ∧ z.natAbs ≤ M := by
  obtain ⟨⟨l, _, hl⟩, hz⟩ := h
  obtain ⟨z, ez, hzM⟩ := hz rfl
  obtain ⟨e1, e2⟩ := zd_iff (W := V) hl ez
  exact ⟨z, e1, e2, hzM⟩
theorem TZ.ofv {V : GV 0 F} {k : Nat} {a : Int × Int} (hk : 4 ≤ k) (h : TN 0 k a) {D z : Int} {M : Nat} (e : V.e a * V.i D = V.i z) (hz : z.natAbs ≤ M) : TZ 0 D M a := ⟨⟨k, hk, h⟩, fun _ => ⟨z, (zd_iff (W := gvQ) h e).2, hz⟩⟩
/-- a row by one bottom, as whole numbers -/
def zT (D : Int) (r : List (Int × Int)) : List Int := r.map fun a => a.1 * D / a.2
theorem wr_tz (hg : g = 0 ∨ Gr5 g) {D : Int} {M A : Nat} {r : List (Int × Int)} (h : ∀ a ∈ r, TZ g D M a) (hD0 : D ≠ 0) (hDA : D.natAbs ≤ A) (hMA : M ≤ A) (hA : 13 ≤ A) : (wrB r).natAbs ≤ A ∧ ∀ y ∈ wrT r, y.natAbs ≤ A := by
  by_cases hg0 : g = 0
  · subst hg0
    have hd : ∀ a ∈ r, 0 < a.2 ∧ a.2 ∣ D ∧ ∃ z : Int, a.1 * D = z * a.2 ∧ z.natAbs ≤ M := fun a ha => by
      obtain ⟨z, e1, _, hz⟩ := (h a ha).val (V := gvQ)
      obtain ⟨⟨l, _, hl⟩, _⟩ := h a ha
      have hr := red_of rfl hl
      exact ⟨hr.1, dvd_cop hr.2 ⟨z, by rw [e1, Int.mul_comm]⟩, z, e1, hz⟩
    obtain ⟨b1, b2, b3⟩ := wrB_spec fun a ha => (hd a ha).1
    have hdv := b3 D fun a ha => (hd a ha).2.1
    refine ⟨Nat.le_trans (Nat.le_of_dvd (by omega) (Int.natAbs_dvd_natAbs.mpr hdv)) hDA, fun y hy => ?_⟩
    obtain ⟨a, ha, rfl⟩ := List.mem_map.mp hy
    obtain ⟨p1, _, z, e1, hz⟩ := hd a ha
    obtain ⟨c, hc⟩ := b2 a ha
    obtain ⟨d, hd2⟩ := hdv
    rw [hc, Int.mul_fdiv_cancel_left _ (by omega)]
    have e2 : z = a.1 * c * d := by
      have : a.2 * z = a.2 * (a.1 * c * d) := by
        rw [Int.mul_comm a.2 z, ← e1, hd2, hc]
        grind
      exact Int.eq_of_mul_eq_mul_left (by omega) this
    have hd0 : 1 ≤ d.natAbs := by
      have : d ≠ 0 := fun z => hD0 (by rw [hd2, z, Int.mul_zero])
      omega
    rw [e2, Int.natAbs_mul] at hz
    exact Nat.le_trans (Nat.le_trans (Nat.le_mul_of_pos_right _ hd0) hz) hMA
  · have hd : ∀ a ∈ r, a.2 = 1 ∧ a.1.natAbs ≤ 13 := fun a ha => by
      obtain ⟨⟨l, _, hl⟩, _⟩ := h a ha
      rcases hl.1 with ⟨w, _⟩ | ⟨_, a0, a1, a2⟩
      · exact absurd w hg0
      · have := (grb hg).2
        exact ⟨a2, by omega⟩
    rw [wrB_one fun a ha => (hd a ha).1, wrT_one fun a ha => (hd a ha).1]
    refine ⟨by show 1 ≤ A; omega, fun y hy => ?_⟩
    obtain ⟨a, ha, rfl⟩ := List.mem_map.mp hy
    exact Nat.le_trans (hd a ha).2 hA
end
end Fm

namespace Fm
open Lean.Grind PySem L2 Fr Fd
section
variable {g : Int} {F : Type} [CommRing F] {V : GV g F}
end
end Fm

namespace Fr
open Lean.Grind
variable {F : Type} [CommRing F]
theorem set_parts {α : Type} {A : List α} {i : Nat} (h : i < A.length) (v : α) : A = A.take i ++ A[i] :: A.drop (i + 1) ∧ A.set i v = A.take i ++ v :: A.drop (i + 1) := by
  refine ⟨?_, by rw [List.set_eq_take_append_cons_drop, if_pos h]⟩
  have := List.set_eq_take_append_cons_drop (l := A) (i := i) (a := A[i])
  rw [if_pos h, List.set_getElem_self] at this
  exact this
theorem Alt.swap2 {m : Nat} {f : List (Row F) → F} (a : Alt m f) {pre mid post : List (Row F)} {u v : Row F} (h : pre.length + mid.length + post.length + 2 = m) : f (pre ++ u :: (mid ++ v :: post)) = -f (pre ++ v :: (mid ++ u :: post)) := by
  have hl : ∀ w : Row F, pre.length + (mid ++ w :: post).length + 1 = m := fun w => by
    rw [List.length_append, List.length_cons]
    omega
  have hl2 : ∀ w : Row F, (pre ++ w :: mid).length + post.length + 1 = m := fun w => by
    rw [List.length_append, List.length_cons]
    omega
  have e1 := a.twice (u := fun j => u j + v j) pre mid post (by omega)
  have ap : ∀ (w x : Row F), pre ++ w :: (mid ++ x :: post) = (pre ++ w :: mid) ++ x :: post := fun w x => by rw [List.append_assoc]; rfl
  rw [a.add pre u v _ (hl _), ap, ap, a.add (pre ++ u :: mid) u v post (hl2 _), a.add (pre ++ v :: mid) u v post (hl2 _), ← ap, ← ap, ← ap, ← ap, a.twice (u := u) pre mid post h, a.twice (u := v) pre mid post h] at e1
  grind
theorem det_mul {A : List (Row F)} {m i : Nat} (hl : A.length = m) (hi : i < A.length) (c : F) : dC (A.set i fun j => c * A[i] j) (List.range m) = c * dC A (List.range m) := by
  obtain ⟨e1, e2⟩ := set_parts hi (fun j => c * A[i] j)
  have a := dC_alt (F := F) (List.range m)
  rw [e2, a.mul (A.take i) c A[i] (A.drop (i + 1)) (by rw [List.length_take, List.length_drop, List.length_range]; omega), ← e1]
theorem det_add {A : List (Row F)} {m i j : Nat} (hl : A.length = m) (hi : i < A.length) (hj : j < A.length) (hij : i ≠ j) : dC (A.set i fun x => A[i] x + A[j] x) (List.range m) = dC A (List.range m) := by
  obtain ⟨e1, e2⟩ := set_parts hi (fun x => A[i] x + A[j] x)
  have a := dC_alt (F := F) (List.range m)
  have hlen : (A.take i).length + (A.drop (i + 1)).length + 1 = (List.range m).length := by rw [List.length_take, List.length_drop, List.length_range]; omega
  have e3 : (fun x => A[i] x + A[j] x) = fun x => A[i] x + (1 : F) * A[j] x := funext fun x => by grind
  rw [e2, e3]
  by_cases h : j < i
  · have hm : A[j] ∈ A.take i := List.mem_of_getElem? (i := j) (by rw [List.getElem?_take, if_pos h, List.getElem?_eq_getElem hj])
    rw [a.clear1 hm hlen, ← e1]
  · have hm : A[j] ∈ A.drop (i + 1) := List.mem_of_getElem? (i := j - (i + 1)) (by rw [List.getElem?_drop, show i + 1 + (j - (i + 1)) = j by omega, List.getElem?_eq_getElem hj])
    rw [a.clear2 hm hlen, ← e1]
theorem det_swp {A : List (Row F)} {m i j : Nat} (hl : A.length = m) (hi : i < A.length) (hj : j < A.length) (hij : i < j) : dC ((A.set i A[j]).set j A[i]) (List.range m) = -dC A (List.range m) := by
  have a := dC_alt (F := F) (List.range m)
  have e1 : A = A.take i ++ A[i] :: ((A.drop (i + 1)).take (j - i - 1) ++ A[j] :: A.drop (j + 1)) := by
    have h1 := (set_parts hi A[i]).1
    have hjd : j - i - 1 < (A.drop (i + 1)).length := by rw [List.length_drop]; omega
    have h2 := (set_parts hjd A[i]).1
    have h3 : (A.drop (i + 1))[j - i - 1] = A[j] := by
      rw [List.getElem_drop]
      congr 1
      omega
    rw [h3, List.drop_drop, show i + 1 + (j - i - 1 + 1) = j + 1 by omega] at h2
    rw [← h2]
    exact h1
  have e2 : (A.set i A[j]).set j A[i] = A.take i ++ A[j] :: ((A.drop (i + 1)).take (j - i - 1) ++ A[i] :: A.drop (j + 1)) := by
    rw [(set_parts hi A[j]).2]
    rw [List.set_append_right _ _ (by rw [List.length_take]; omega), List.length_take, show j - min i A.length = (j - i - 1) + 1 by omega, List.set_cons_succ]
    have hjd : j - i - 1 < (A.drop (i + 1)).length := by rw [List.length_drop]; omega
    rw [(set_parts hjd A[i]).2, List.drop_drop, show i + 1 + (j - i - 1 + 1) = j + 1 by omega]
  have h := a.swap2 (pre := A.take i) (mid := (A.drop (i + 1)).take (j - i - 1)) (post := A.drop (j + 1)) (u := A[j]) (v := A[i]) (by
    rw [List.length_take, List.length_take, List.length_drop, List.length_drop, List.length_range]
    omega)
  rw [e2, h, ← e1]
theorem SF_unit {n i : Nat} (hi : i < n) (f : Nat → F) : SF (fun k => unit i k * f k) n = f i := by
  rw [SF_one (i := i) hi]
  · unfold unit
    rw [if_pos rfl]
    grind
  · intro k _ hk
    unfold unit
    rw [if_neg hk]
    grind
theorem unit_comm (i k : Nat) : (unit i k : F) = unit k i := by
  unfold unit
  by_cases h : k = i
  · rw [if_pos h, if_pos h.symm]
  · rw [if_neg h, if_neg (fun z => h z.symm)]
/-- the form by its first row's places -/
theorem bil_sum {T : List (Row F)} {m : Nat} (hT : T.length = m) (u v : Row F) : SF (fun k => u k * bil T m (unit k) v) m = bil T m u v := by
  unfold bil
  have e1 : SF (fun k => u k * SF (fun j => thr T (unit k) j * v j) m) m = SF (fun k => SF (fun j => u k * (T.getD k zr) j * v j) m) m := SF_congr fun k hk => by
    rw [← SF_mul]
    refine SF_congr fun j _ => ?_
    rw [thr_unit (by omega)]
    grind
  rw [e1, SF_comm]
  refine SF_congr fun j _ => ?_
  show _ = SF (fun k => u k * (T.getD k zr) j) T.length * v j
  have e2 : SF (fun k => u k * (T.getD k zr) j) T.length * v j = v j * SF (fun k => u k * (T.getD k zr) j) m := by
    rw [hT]
    grind
  rw [e2, ← SF_mul]
  exact SF_congr fun k _ => by grind
end Fr
namespace Fm
open Lean.Grind PySem L2 Fr Fd
section
variable {g : Int} {F : Type} [CommRing F]
/-- rows stepped, and the determinant that is due -/
structure StT (W : GV g F) (k m : Nat) (rs : List (List (Int × Int))) (due : Int × Int) : Prop where
  len : rs.length = m
  sz : ∃ D : Int, D ≠ 0 ∧ D.natAbs ≤ 128 ^ k ∧ ∀ r ∈ rs, RZ g D (128 ^ k) m r
  du : ∃ D : Int, D ≠ 0 ∧ D.natAbs ≤ 128 ^ k ∧ TZ g D (128 ^ k) due
  val : W.e due = dC (rs.map (er W)) (List.range m)
  det : dC (rs.map (er W)) (List.range m) ≠ 0
variable {W : GV g F} {k m : Nat} {rs : List (List (Int × Int))} {due : Int × Int}
theorem StT.start (hg : g = 0 ∨ Gr5 g) : StT W 0 m (onesF m) (1, 1) := by
  have e : dC ((onesF m).map (er W)) (List.range m) = 1 := by rw [er_onesF, dC_units _ List.nodup_range]
  exact ⟨by unfold onesF; rw [List.length_map, List.length_range], ⟨1, by decide, by decide, rz_ones hg⟩, ⟨1, by decide, by decide, TZ.one hg⟩, by rw [e, W.one], by rw [e]; exact W.ne⟩
theorem pk_le {k : Nat} : 128 ^ k ≤ 128 ^ (k + 1) := Nat.pow_le_pow_right (by decide) (by omega)
theorem StT.stay (h : StT W k m rs due) : StT W (k + 1) m rs due := by
  obtain ⟨D, d1, d2, d3⟩ := h.sz
  obtain ⟨E, e1, e2, e3⟩ := h.du
  exact ⟨h.len, ⟨D, d1, Nat.le_trans d2 pk_le, fun r hr => ⟨(d3 r hr).1, fun a ha => ((d3 r hr).2 a ha).mono pk_le⟩⟩, ⟨E, e1, Nat.le_trans e2 pk_le, e3.mono pk_le⟩, h.val, h.det⟩
theorem StT.scale (hg : g = 0 ∨ Gr5 g) (h : StT W k m rs due) {i : Nat} {r : List (Int × Int)} (hr : rs[i]? = some r) {x : Int × Int} (hx : TN g 7 x) (x0 : x.1 ≠ 0) : StT W (k + 1) m (rs.set i (r.map fun a => timesF g a x)) (timesF g due x) := by
  obtain ⟨D, d1, d2, d3⟩ := h.sz
  obtain ⟨E, e1, e2, e3⟩ := h.du
  have hi := (List.getElem?_eq_some_iff.mp hr).1
  have hp := hx.pos
  have tx := TZ.of hg hx (by decide)
  have b1 : x.1.natAbs ≤ 128 := Nat.le_of_lt hx.2.1
  have b2 : x.2.natAbs ≤ 128 := Nat.le_of_lt hx.2.2
  have rr := d3 r (List.mem_of_getElem? hr)
  have up : ∀ {a b : Nat}, a ≤ 128 ^ k → b ≤ 128 → a * b ≤ 128 ^ (k + 1) := fun ha hb => by
    rw [Nat.pow_succ]
    exact Nat.mul_le_mul ha hb
  obtain ⟨l2, l24, t2⟩ := e3.1
  have hx0 : W.e x ≠ 0 := fun z => by
    have := W.inj hg hx (tn_zero hg) (by rw [z, W.zero])
    rw [this] at x0
    exact x0 rfl
  have ev : er W (r.map fun a => timesF g a x) = fun j => W.e x * er W r j := er_times hg rr tx
  have hiA : i < (rs.map (er W)).length := by rw [List.length_map]; exact hi
  have hA : (rs.map (er W))[i] = er W r := by
    rw [List.getElem_map]
    congr 1
    rw [List.getElem?_eq_getElem hi] at hr
    exact Option.some.inj hr
  have hd : dC ((rs.set i (r.map fun a => timesF g a x)).map (er W)) (List.range m) = W.e x * dC (rs.map (er W)) (List.range m) := by
    rw [List.map_set, ev, ← hA]
    exact det_mul (by rw [List.length_map, h.len]) hiA (W.e x)
  refine ⟨by rw [List.length_set, h.len], ⟨D * x.2, Int.mul_ne_zero d1 (by omega), by rw [Int.natAbs_mul]; exact up d2 b2, fun q hq => ?_⟩, ⟨E * x.2, Int.mul_ne_zero e1 (by omega), by rw [Int.natAbs_mul]; exact up e2 b2, (e3.times hg tx).mono (up (Nat.le_refl _) b1)⟩, ?_, ?_⟩
  · rcases List.mem_or_eq_of_mem_set hq with hq | rfl
    · exact ⟨(d3 q hq).1, fun a ha => (((d3 q hq).2 a ha).wide x.2).mono (up (Nat.le_refl _) b2)⟩
    · have := rz_times hg rr tx
      exact ⟨this.1, fun a ha => (this.2 a ha).mono (up (Nat.le_refl _) b1)⟩
  · rw [W.times hg t2 hx, h.val, hd]
    grind
  · rw [hd]
    exact fun z => h.det (W.dom z hx0)
theorem StT.plus (hg : g = 0 ∨ Gr5 g) (h : StT W k m rs due) {i j : Nat} {r s : List (Int × Int)} (hr : rs[i]? = some r) (hs : rs[j]? = some s) (hij : i ≠ j) : StT W (k + 1) m (rs.set i (List.zipWith (plusF g) r s)) due := by
  obtain ⟨D, d1, d2, d3⟩ := h.sz
  obtain ⟨E, e1, e2, e3⟩ := h.du
  have hi := (List.getElem?_eq_some_iff.mp hr).1
  have hj := (List.getElem?_eq_some_iff.mp hs).1
  have rr := d3 r (List.mem_of_getElem? hr)
  have ss := d3 s (List.mem_of_getElem? hs)
  have hA : ∀ {i : Nat} {r : List (Int × Int)} (hi : i < rs.length), rs[i]? = some r → (rs.map (er W))[i]'(by rw [List.length_map]; exact hi) = er W r := fun hi hr => by
    rw [List.getElem_map]
    congr 1
    rw [List.getElem?_eq_getElem hi] at hr
    exact Option.some.inj hr
  have hd : dC ((rs.set i (List.zipWith (plusF g) r s)).map (er W)) (List.range m) = dC (rs.map (er W)) (List.range m) := by
    rw [List.map_set, er_plus hg rr ss, ← hA hi hr, ← hA hj hs]
    exact det_add (by rw [List.length_map, h.len]) _ _ hij
  refine ⟨by rw [List.length_set, h.len], ⟨D, d1, Nat.le_trans d2 pk_le, fun q hq => ?_⟩, ⟨E, e1, Nat.le_trans e2 pk_le, e3.mono pk_le⟩, by rw [h.val, hd], by rw [hd]; exact h.det⟩
  rcases List.mem_or_eq_of_mem_set hq with hq | rfl
  · exact ⟨(d3 q hq).1, fun a ha => ((d3 q hq).2 a ha).mono pk_le⟩
  · have := rz_plus hg rr ss
    exact ⟨this.1, fun a ha => (this.2 a ha).mono (by rw [Nat.pow_succ]; omega)⟩
theorem StT.swap (hg : g = 0 ∨ Gr5 g) (h : StT W k m rs due) {i j : Nat} {r s : List (Int × Int)} (hr : rs[i]? = some r) (hs : rs[j]? = some s) (hij : i ≠ j) : StT W (k + 1) m ((rs.set i s).set j r) (minusF g due) := by
  obtain ⟨D, d1, d2, d3⟩ := h.sz
  obtain ⟨E, e1, e2, e3⟩ := h.du
  obtain ⟨l2, l24, t2⟩ := e3.1
  have hi := (List.getElem?_eq_some_iff.mp hr).1
  have hj := (List.getElem?_eq_some_iff.mp hs).1
  have hA : ∀ {i : Nat} {r : List (Int × Int)} (hi : i < rs.length), rs[i]? = some r → (rs.map (er W))[i]'(by rw [List.length_map]; exact hi) = er W r := fun hi hr => by
    rw [List.getElem_map]
    congr 1
    rw [List.getElem?_eq_getElem hi] at hr
    exact Option.some.inj hr
  have hl : (rs.map (er W)).length = m := by rw [List.length_map, h.len]
  have hd : dC (((rs.set i s).set j r).map (er W)) (List.range m) = -dC (rs.map (er W)) (List.range m) := by
    rw [List.map_set, List.map_set]
    rcases Nat.lt_or_gt_of_ne hij with hlt | hgt
    · rw [← hA hi hr, ← hA hj hs]
      exact det_swp hl _ _ hlt
    · rw [List.set_comm _ _ hij, ← hA hi hr, ← hA hj hs]
      exact det_swp hl _ _ hgt
  refine ⟨by rw [List.length_set, List.length_set, h.len], ⟨D, d1, Nat.le_trans d2 pk_le, fun q hq => ?_⟩, ⟨E, e1, Nat.le_trans e2 pk_le, (e3.minus hg).mono pk_le⟩, ?_, ?_⟩
  · have hq2 : q ∈ rs := by
      rcases List.mem_or_eq_of_mem_set hq with hq | rfl
      · rcases List.mem_or_eq_of_mem_set hq with hq | rfl
        · exact hq
        · exact List.mem_of_getElem? hs
      · exact List.mem_of_getElem? hr
    exact ⟨(d3 q hq2).1, fun a ha => ((d3 q hq2).2 a ha).mono pk_le⟩
  · rw [W.minus hg t2, h.val, hd]
  · rw [hd]
    intro z
    exact h.det (by grind)
theorem p128 {k : Nat} (h : k ≤ 30) : 128 ^ k ≤ 2 ^ 210 := by
  rw [show (128 : Nat) = 2 ^ 7 from rfl, ← Nat.pow_mul]
  exact Nat.pow_le_pow_right (by decide) (by omega)
theorem lt211 {a : Nat} (h : a ≤ 2 ^ 210) : a < 2 ^ 211 := by
  rw [show (211 : Nat) = 210 + 1 from rfl, Nat.pow_succ]
  have : 0 < 2 ^ 210 := Nat.pow_pos (by decide)
  omega
/-- what stands in an invariant is small -/
theorem StT.be (hg : g = 0 ∨ Gr5 g) (h : StT W k m rs due) (hk : k ≤ 30) : (∀ r ∈ rs, r.length = m ∧ ∀ a ∈ r, PBe a) ∧ PBe due ∧ TN g 211 due := by
  obtain ⟨D, d1, d2, d3⟩ := h.sz
  obtain ⟨E, e1, e2, e3⟩ := h.du
  have hp := lt211 (p128 hk)
  have td := e3.tn hg (show 4 ≤ 211 by decide) e1 (Nat.lt_of_le_of_lt e2 hp) hp
  exact ⟨fun r hr => ⟨(d3 r hr).1, (d3 r hr).be hg (show 4 ≤ 211 by decide) (by decide) d1 (Nat.lt_of_le_of_lt d2 hp) hp⟩, td.be (by decide), td⟩
end
end Fm

namespace Fm
open Lean.Grind PySem L2 Fr Fd
section
variable {g : Int} {F : Type} [CommRing F] {V : GV g F}
end
end Fm

namespace Fm
open Lean.Grind PySem L2 Fr Fd
/-! ### a class of the program's own: Form -/
def clsB : Stmt → List Stmt
  | .ClassDef (body := b) .. => b
  | _ => []
structure FormC (K : PySem.W.Frag) : Prop where
  c : Cls K (He.ga K "Form")
  nt : NoAttr K (He.ga K "Form") "table"
  ng : NoAttr K (He.ga K "Form") "ground"
/-- a form of the ground g, with that table -/
def FormV (K : PySem.W.Frag) (H : Hp) (f : V) (g : Int) (tv : V) : Prop := ∃ p dx, f = .ref p ∧ H p = some (.ins (He.ga K "Form") dx [("table", tv), ("ground", .int g)])
theorem FormV.sm {K : PySem.W.Frag} {H H' : Hp} {f : V} {g : Int} {tv : V} (h : FormV K H f g tv) (s : Same H H') : FormV K H' f g tv := by
  obtain ⟨p, dx, e, hp⟩ := h
  exact ⟨p, dx, e, s _ _ hp⟩
theorem FormV.mv {K : PySem.W.Frag} {H H' : Hp} {b : Addr} {f : V} {g : Int} {tv : V} (h : FormV K H f g tv) (m : Mv b H H') (hb : Bag H b) : FormV K H' f g tv := by
  obtain ⟨p, dx, e, hp⟩ := h
  obtain ⟨A, B, hb, _⟩ := hb
  refine ⟨p, dx, e, m _ _ (fun z => ?_) hp⟩
  rw [z, hb] at hp
  cases hp
theorem FormV.upd {K : PySem.W.Frag} {H : Hp} {D : Addr} {xs ys : List V} {f : V} {g : Int} {tv : V} (h : FormV K H f g tv) (hD : H D = some (.lst xs)) : FormV K (upd H D (.lst ys)) f g tv := by
  obtain ⟨p, dx, e, hp⟩ := h
  refine ⟨p, dx, e, ?_⟩
  rw [upd_ne (fun z => by rw [z, hD] at hp; cases hp)]
  exact hp
theorem w_fld {K : PySem.W.Frag} {ta : TE} {f : Str} {σ : L2.St} {H : Hp} {Q : VK} (h : ta σ H fun x H1 => ∃ a C dx fs v, x = .ref a ∧ H1 a = some (.ins C dx fs) ∧ Cls K C ∧ NoAttr K C f ∧ fs.lookup f = some v ∧ Q v H1) : tFld K ta f σ H Q := h
theorem w_tab {K : PySem.W.Frag} {H : Hp} {x tv : V} {g : Int} {Q : V → Prop} (CF : FormC K) (h : FormV K H x g tv) (q : Q tv) : ∃ a C dx fs v, x = .ref a ∧ H a = some (.ins C dx fs) ∧ Cls K C ∧ NoAttr K C "table" ∧ fs.lookup ("table" : Str) = some v ∧ Q v := by
  obtain ⟨p, dx, rfl, hp⟩ := h
  exact ⟨p, _, dx, _, tv, rfl, hp, CF.c, CF.nt, rfl, q⟩
theorem w_gnd {K : PySem.W.Frag} {H : Hp} {x tv : V} {g : Int} {Q : V → Prop} (CF : FormC K) (h : FormV K H x g tv) (q : Q (.int g)) : ∃ a C dx fs v, x = .ref a ∧ H a = some (.ins C dx fs) ∧ Cls K C ∧ NoAttr K C "ground" ∧ fs.lookup ("ground" : Str) = some v ∧ Q v := by
  obtain ⟨p, dx, rfl, hp⟩ := h
  exact ⟨p, _, dx, _, .int g, rfl, hp, CF.c, CF.ng, rfl, q⟩
theorem w_setF {K : PySem.W.Frag} {ta tv : TE} {f : Str} {D : Ends} {σ : L2.St} {H : Hp} (h : tv σ H fun y H1 => ta σ H1 fun x H2 => ∃ a C dx fs, x = .ref a ∧ H2 a = some (.ins C dx fs) ∧ Cls K C ∧ NoAttr K C f ∧ fs.length < 1000 ∧ D.nx σ (upd H2 a (.ins C dx (putF f y fs)))) : sFld K ta tv f D σ H := h
theorem w_makeN {C : Addr} {n m : Nat} {sp : Sp} {gV : List V → List V → List V} {E : XK} {t tk : TA} {σ : L2.St} {H : Hp} {Q : VK} (h : t σ H fun vs H1 => tk σ H1 fun zs H2 => vs.length = n ∧ zs.length = m ∧
  ∀ x dx, H2 x = none → H2 dx = none → dx ≠ x → sp (gV (.ref x :: vs) zs) (upd (upd H2 dx (.own x)) x (.ins C dx [])) (fun v H3 => v = .non ∧ Q (.ref x) H3) E) : tMakeN C n m sp gV E t tk σ H Q := h
theorem w_make {C : Addr} {sp : Sp} {dvs : List V} {E : XK} {t : TA} {σ : L2.St} {H : Hp} {Q : VK} (h : t σ H fun vs H1 => ∀ x dx, H1 x = none → H1 dx = none → dx ≠ x →
  sp (.ref x :: (vs ++ dvs)) (upd (upd H1 dx (.own x)) x (.ins C dx [])) (fun v H2 => v = .non ∧ Q (.ref x) H2) E) : tMake C sp dvs E t σ H Q := h
theorem made_same0 {H : Hp} {x dx C : Addr} (hx : H x = none) (hdx : H dx = none) : Same H (upd (upd H dx (.own x)) x (.ins C dx [])) := Same.updD (same_upd hdx) hx
theorem made_same {H H' : Hp} {x dx C : Addr} (hx : H x = none) (hdx : H dx = none) (k : ∀ a o, a ≠ x → (upd (upd H dx (.own x)) x (.ins C dx [])) a = some o → H' a = some o) : Same H H' := fun a o h => k a o (fun z => by rw [z, hx] at h; cases h) (made_same0 hx hdx a o h)
/-! ### rows compared -/
theorem eqvAll_nums : ∀ (r s : List (Int × Int)), PyData.eqvAll (r.map numD) (s.map numD) = decide (r = s)
  | [], [] => by simp [PyData.eqvAll]
  | [], _ :: _ => by simp [PyData.eqvAll]
  | _ :: _, [] => by simp [PyData.eqvAll]
  | a :: r, c :: s => by
    rw [List.map_cons, List.map_cons, PyData.eqvAll, num_eqv, eqvAll_nums r s]
    by_cases h1 : a = c <;> by_cases h2 : r = s <;> simp [h1, h2]
theorem row_eqv (r s : List (Int × Int)) : PyData.eqv (rowD r) (rowD s) = decide (r = s) := by
  rw [rowD, rowD, PyData.eqv]
  exact eqvAll_nums r s
/-! ### numbers, rows, tables as things -/
theorem numV_tb {H : Hp} {v : V} {a : Int × Int} {k : Nat} (h : NumV H v a) (h1 : a.1.natAbs < 2 ^ k) (h2 : a.2.natAbs < 2 ^ k) : TB k 1 H v := by
  obtain ⟨p, rfl, hp⟩ := h
  refine TB.tup hp (by simp) fun x hx => ?_
  rcases List.mem_cons.mp hx with rfl | hx
  · exact TB.at h1
  · rw [List.mem_singleton.mp hx]
    exact TB.at h2
theorem rowV_tb {H : Hp} {v : V} {r : List (Int × Int)} {g : Int} {k : Nat} (h : RowV H v r) (hl : r.length ≤ 100) (hr : ∀ a ∈ r, TN g k a) : TB k 2 H v := by
  obtain ⟨p, xs, rfl, hp, hlx, hx⟩ := h
  refine TB.tup hp (by omega) fun x hx' => ?_
  obtain ⟨i, hi⟩ := List.getElem?_of_mem hx'
  have hil := (List.getElem?_eq_some_iff.mp hi).1
  have gr : r[i]? = some (r[i]'(by omega)) := List.getElem?_eq_getElem _
  have := hr _ (List.mem_of_getElem? gr)
  exact numV_tb (hx i x _ hi gr) this.2.1 this.2.2
theorem tabV_tb {H : Hp} {v : V} {t : List (List (Int × Int))} {g : Int} {k : Nat} (h : TabV H v t) (hl : t.length ≤ 100) (hr : ∀ r ∈ t, r.length ≤ 100 ∧ ∀ a ∈ r, TN g k a) : TB k 3 H v := by
  obtain ⟨p, xs, rfl, hp, hlx, hx⟩ := h
  refine TB.tup hp (by omega) fun x hx' => ?_
  obtain ⟨i, hi⟩ := List.getElem?_of_mem hx'
  have hil := (List.getElem?_eq_some_iff.mp hi).1
  have gr : t[i]? = some (t[i]'(by omega)) := List.getElem?_eq_getElem _
  have := hr _ (List.mem_of_getElem? gr)
  exact rowV_tb (hx i x _ hi gr) this.1 this.2
theorem w_isT {K : PySem.W.Frag} {H : Hp} {Q : VK} {p : Addr} {xs : List V} (h : H p = some (.tup xs)) (q : Q (.bl true) H) : rIsi K [.ref p, .ty "tuple"] H Q :=
  isi_is (a := "tuple") (.base (.tup h)) (by rfl) q
/-! ### bounds by bits -/
theorem pw_mul {a b i j : Nat} (h1 : a ≤ 2 ^ i) (h2 : b ≤ 2 ^ j) : a * b ≤ 2 ^ (i + j) := by
  rw [Nat.pow_add]
  exact Nat.mul_le_mul h1 h2
theorem pw_le {a i j : Nat} (h : a ≤ 2 ^ i) (hij : i ≤ j) : a ≤ 2 ^ j := Nat.le_trans h (Nat.pow_le_pow_right (by decide) hij)
theorem pw_lt {a i j : Nat} (h : a ≤ 2 ^ i) (hij : i < j) : a < 2 ^ j := Nat.lt_of_le_of_lt h (Nat.pow_lt_pow_right (by decide) hij)
theorem pw_add {a b i : Nat} (h1 : a ≤ 2 ^ i) (h2 : b ≤ 2 ^ i) : a + b ≤ 2 ^ (i + 1) := by
  rw [Nat.pow_succ]
  omega
theorem pw_abs {a b : Int} {i j : Nat} (h1 : a.natAbs ≤ 2 ^ i) (h2 : b.natAbs ≤ 2 ^ j) : (a * b).natAbs ≤ 2 ^ (i + j) := by
  rw [Int.natAbs_mul]
  exact pw_mul h1 h2
theorem pw_five {m : Nat} (h : m ≤ 5) : m ≤ 2 ^ 3 ∧ m + 1 ≤ 2 ^ 3 := ⟨Nat.le_trans h (by decide), Nat.le_trans (Nat.succ_le_succ h) (by decide)⟩
end Fm

namespace Fr
open Lean.Grind
variable {F : Type} [CommRing F]
theorem bil_addl {T : List (Row F)} {m : Nat} (u v w : Row F) : bil T m (fun j => u j + v j) w = bil T m u w + bil T m v w := by
  unfold bil
  rw [thr_add, ← SF_add]
  exact SF_congr fun i _ => by grind
theorem bil_mull {T : List (Row F)} {m : Nat} (c : F) (u w : Row F) : bil T m (fun j => c * u j) w = c * bil T m u w := by
  unfold bil
  rw [thr_mul, ← SF_mul]
  exact SF_congr fun i _ => by grind
theorem bil_addr {T : List (Row F)} {m : Nat} (u v w : Row F) : bil T m u (fun j => v j + w j) = bil T m u v + bil T m u w := by
  unfold bil
  rw [← SF_add]
  exact SF_congr fun i _ => by grind
theorem bil_mulr {T : List (Row F)} {m : Nat} (c : F) (u w : Row F) : bil T m u (fun j => c * w j) = c * bil T m u w := by
  unfold bil
  rw [← SF_mul]
  exact SF_congr fun i _ => by grind
theorem bil_comm {T : List (Row F)} {m : Nat} (hT : T.length = m) (hs : SymF T m) (u v : Row F) : bil T m u v = bil T m v u := by
  have key : ∀ u v : Row F, bil T m u v = SF (fun j => SF (fun i => u i * (T.getD i zr) j * v j) m) m := fun u v => by
    unfold bil
    refine SF_congr fun j _ => ?_
    show SF (fun i => u i * (T.getD i zr) j) T.length * v j = _
    rw [hT]
    have : SF (fun i => u i * (T.getD i zr) j) m * v j = v j * SF (fun i => u i * (T.getD i zr) j) m := by grind
    rw [this, ← SF_mul]
    exact SF_congr fun i _ => by grind
  rw [key u v, key v u, SF_comm]
  refine SF_congr fun i hi => SF_congr fun j hj => ?_
  rw [hs j i hj hi]
  grind
/-- maps of rows that keep sums and multiples -/
structure Lin (L : Row F → Row F) : Prop where
  add : ∀ u v : Row F, L (fun j => u j + v j) = fun j => L u j + L v j
  mul : ∀ (c : F) (u : Row F), L (fun j => c * u j) = fun j => c * L u j
theorem Lin.zero {L : Row F → Row F} (h : Lin L) : L (fun _ => 0) = fun _ => 0 := by
  have := h.mul 0 (fun _ => 0)
  have e : (fun j : Nat => (0 : F) * 0) = fun _ => 0 := funext fun _ => by grind
  rw [e] at this
  rw [this]
  exact funext fun _ => by grind
theorem Lin.sum {L : Row F → Row F} (h : Lin L) (c : Nat → F) (w : Nat → Row F) : ∀ n, L (fun j => SF (fun i => c i * w i j) n) = fun j => SF (fun i => c i * L (w i) j) n
  | 0 => h.zero
  | n + 1 => by
    show L (fun j => SF (fun i => c i * w i j) n + c n * w n j) = fun j => SF (fun i => c i * L (w i) j) n + c n * L (w n) j
    rw [h.add (fun j => SF (fun i => c i * w i j) n) (fun j => c n * w n j), h.sum c w n, h.mul]
theorem Lin.id : Lin (fun u : Row F => u) := ⟨fun _ _ => rfl, fun _ _ => rfl⟩
theorem Lin.comp {L M : Row F → Row F} (hL : Lin L) (hM : Lin M) : Lin (fun u => M (L u)) := ⟨fun u v => by show M (L _) = _; rw [hL.add, hM.add], fun c u => by show M (L _) = _; rw [hL.mul, hM.mul]⟩
theorem unit_sum {m : Nat} {u : Row F} (hu : ∀ j, m ≤ j → u j = 0) : (fun j => SF (fun i => u i * unit i j) m) = u := funext fun j => by
  by_cases hj : j < m
  · rw [SF_one hj _ fun k _ hk => by
      unfold unit
      rw [if_neg fun z => hk z.symm]
      grind]
    unfold unit
    rw [if_pos rfl]
    grind
  · rw [SF_nul fun i hi => by
      unfold unit
      rw [if_neg (by omega)]
      grind, hu j (by omega)]
/-- a table whose rows are what units are led to leads all rows so -/
theorem thr_lin {T : List (Row F)} {m : Nat} (hT : T.length = m) {L : Row F → Row F} (hL : Lin L) (h : ∀ i, i < m → T.getD i zr = L (unit i)) {u : Row F} (hu : ∀ j, m ≤ j → u j = 0) : thr T u = L u := by
  have e := hL.sum u unit m
  rw [unit_sum hu] at e
  rw [e]
  funext j
  show SF (fun i => u i * (T.getD i zr) j) T.length = _
  rw [hT]
  exact SF_congr fun i hi => by rw [h i hi]
end Fr

namespace Fm
open Lean.Grind PySem L2 Fr Fd
section
variable {g : Int} {F : Type} [CommRing F]
variable {V : GV g F}
theorem TZ.less {D : Int} {M N : Nat} {a c : Int × Int} (hg : g = 0 ∨ Gr5 g) (ha : TZ g D M a) (hc : TZ g D N c) : TZ g D (M + N) (lessF g a c) := by
  obtain ⟨l, h4, hl⟩ := ha.1
  obtain ⟨m, h5, hm⟩ := hc.1
  rw [← less_eq hg hl hm h4 h5]
  exact ha.plus hg (hc.minus hg)
theorem RZ.mono {D : Int} {M N n : Nat} {r : List (Int × Int)} (h : RZ g D M n r) (hN : M ≤ N) : RZ g D N n r := ⟨h.1, fun a ha => (h.2 a ha).mono hN⟩
theorem RZ.wide {D : Int} {M n : Nat} {r : List (Int × Int)} (h : RZ g D M n r) (c : Int) : RZ g (D * c) (M * c.natAbs) n r := ⟨h.1, fun a ha => (h.2 a ha).wide c⟩
theorem RZ.tn {D : Int} {M n k : Nat} {r : List (Int × Int)} (hg : g = 0 ∨ Gr5 g) (h : RZ g D M n r) (hk : 4 ≤ k) (h0 : D ≠ 0) (hD : D.natAbs < 2 ^ k) (hM : M < 2 ^ k) : ∀ a ∈ r, TN g k a := fun a ha => (h.2 a ha).tn hg hk h0 hD hM
theorem er_sup {n : Nat} {r : List (Int × Int)} (h : r.length = n) : ∀ j, n ≤ j → er V r j = 0 := fun j hj => er_out (by omega)
/-- a form's table turned is itself -/
theorem FrmT.turn (hg : g = 0 ∨ Gr5 g) {W : GV g F} {D : Int} {M m : Nat} {t : List (List (Int × Int))} (f : FrmT W D M m t) : turnF m t = t := by
  have hl := f.len
  refine List.ext_getElem (by rw [turn_len, hl]) fun i h1 h2 => ?_
  have hi : i < m := by omega
  have e1 : (turnF m t)[i] = t.map fun row => row.getD i (0, 1) := by
    have := turn_at (t := t) hi
    rw [List.getElem?_eq_getElem h1] at this
    exact Option.some.inj this
  have hr := f.row _ (List.getElem_mem h2)
  rw [e1]
  refine List.ext_getElem (by rw [List.length_map, hl, hr.1]) fun j h3 h4 => ?_
  have hj : j < m := by rw [List.length_map] at h3; omega
  have hjt : j < t.length := by omega
  have hrj := f.row _ (List.getElem_mem hjt)
  have hij : i < t[j].length := by rw [hrj.1]; exact hi
  rw [List.getElem_map]
  have e2 : t[j].getD i (0, 1) = t[j][i] := by rw [List.getD_eq_getElem?_getD, List.getElem?_eq_getElem hij]; rfl
  rw [e2]
  obtain ⟨⟨l, _, hl1⟩, _⟩ := hrj.2 _ (List.getElem_mem hij)
  obtain ⟨⟨k, _, hl2⟩, _⟩ := hr.2 _ (List.getElem_mem h4)
  refine W.inj hg hl1 hl2 ?_
  have hs := f.sym j i hj hi
  rw [getD_map (List.getElem?_eq_getElem hjt), getD_map (List.getElem?_eq_getElem h2), er_at hij, er_at h4] at hs
  exact hs
/-- products by numbers from corner to corner -/
theorem diag_map (W : GV g F) {m : Nat} {d : List (Int × Int)} (hl : d.length = m) : (diagF d).map (er W) = (List.range m).map fun i c => W.e (d.getD i (0, 1)) * unit i c := by
  unfold diagF
  rw [hl, List.map_map]
  refine List.map_congr_left fun i hi => funext fun c => ?_
  have hi := List.mem_range.mp hi
  show er W ((List.range m).map fun j => if i = j then d.getD i (0, 1) else (0, 1)) c = _
  by_cases hc : c < m
  · rw [er_at (show c < ((List.range m).map fun j => if i = j then d.getD i (0, 1) else (0, 1)).length by rw [List.length_map, List.length_range]; exact hc), List.getElem_map, List.getElem_range]
    unfold unit
    by_cases e : i = c
    · rw [if_pos e, if_pos e.symm]
      grind
    · rw [if_neg e, if_neg fun z => e z.symm, W.zero]
      grind
  · rw [er_out (by rw [List.length_map, List.length_range]; omega)]
    unfold unit
    rw [if_neg (by omega)]
    grind
theorem bil_diag (W : GV g F) {m : Nat} {d : List (Int × Int)} (hl : d.length = m) (u v : Row F) : bil ((diagF d).map (er W)) m u v = SF (fun i => W.e (d.getD i (0, 1)) * u i * v i) m := by
  rw [diag_map W hl]
  unfold bil
  refine SF_congr fun j hj => ?_
  have e : thr ((List.range m).map fun i c => W.e (d.getD i (0, 1)) * unit i c) u j = W.e (d.getD j (0, 1)) * u j := by
    show SF (fun i => u i * (((List.range m).map fun i c => W.e (d.getD i (0, 1)) * unit i c).getD i zr) j) ((List.range m).map fun i c => W.e (d.getD i (0, 1)) * unit i c).length = _
    rw [List.length_map, List.length_range, SF_one hj _ fun k hk hkj => by
      rw [getD_map (List.getElem?_range hk)]
      unfold unit
      rw [if_neg fun z => hkj z.symm]
      grind]
    rw [getD_map (List.getElem?_range hj)]
    unfold unit
    rw [if_pos rfl]
    grind
  rw [e]
/-- what times x is -2 -/
noncomputable def hv (W : GV g F) (x : F) : F := @Classical.epsilon F ⟨0⟩ fun y => y * x = W.i (-2)
theorem hv_ok (W : GV g F) {x : F} (hx : x ≠ 0) : hv W x * x = W.i (-2) := by
  have : ∃ y, y * x = W.i (-2) := by
    obtain ⟨y, hy⟩ := W.inv x hx
    exact ⟨W.i (-2) * y, by grind⟩
  exact Classical.epsilon_spec this
theorem hv_is (W : GV g F) {x c : F} (hx : x ≠ 0) (h : c * x = W.i (-2)) : c = hv W x := W.cancel (h.trans (hv_ok W hx).symm) hx
theorem i_two (W : GV g F) : W.i (-2) = -1 + -1 := by rw [show (-2 : Int) = -1 + -1 from rfl, W.iadd, W.ineg, W.i1]
/-- the mirror by a row -/
noncomputable def mirF (W : GV g F) (B : List (Row F)) (m : Nat) (r u : Row F) : Row F := fun j => u j + hv W (bil B m r r) * bil B m u r * r j
noncomputable def mirsF (W : GV g F) (B : List (Row F)) (m : Nat) (rs : List (Row F)) (u : Row F) : Row F := rs.foldl (fun u r => mirF W B m r u) u
theorem mir_lin (W : GV g F) (B : List (Row F)) (m : Nat) (r : Row F) : Lin (mirF W B m r) := ⟨fun u v => funext fun j => by unfold mirF; rw [bil_addl]; grind, fun c u => funext fun j => by unfold mirF; rw [bil_mull]; grind⟩
theorem mirs_lin (W : GV g F) (B : List (Row F)) (m : Nat) : ∀ rs : List (Row F), Lin (mirsF W B m rs)
  | [] => Lin.id
  | r :: rs => (mir_lin W B m r).comp (mirs_lin W B m rs)
/-- a mirror keeps worths and products -/
theorem mir_keeps (W : GV g F) {B : List (Row F)} {m : Nat} (hB : B.length = m) (hs : SymF B m) {r : Row F} (hr : bil B m r r ≠ 0) (u v : Row F) : bil B m (mirF W B m r u) (mirF W B m r v) = bil B m u v := by
  unfold mirF
  rw [bil_addl, bil_addr, bil_addr, bil_mull, bil_mulr, bil_mull, bil_mulr]
  have h := hv_ok W hr
  rw [i_two] at h
  rw [bil_comm hB hs r v]
  grind
theorem mirs_keeps (W : GV g F) {B : List (Row F)} {m : Nat} (hB : B.length = m) (hs : SymF B m) : ∀ (rs : List (Row F)), (∀ r ∈ rs, bil B m r r ≠ 0) → ∀ u v : Row F, bil B m (mirsF W B m rs u) (mirsF W B m rs v) = bil B m u v
  | [], _, _, _ => rfl
  | r :: rs, h, u, v => by
    show bil B m (mirsF W B m rs (mirF W B m r u)) (mirsF W B m rs (mirF W B m r v)) = _
    rw [mirs_keeps W hB hs rs fun q hq => h q (List.mem_cons_of_mem _ hq)]
    exact mir_keeps W hB hs (h r List.mem_cons_self) u v
end
end Fm

namespace Fm
open Lean.Grind PySem L2 Fr Fd
/-- a call of what may raise, in what may raise -/
theorem w_callS {sp : Sp} {E : L2.St → XK} {as : TA} {σ : L2.St} {H : Hp} {Q : VK} (h : as σ H fun vs H1 => sp vs H1 Q (E σ)) : tCallS sp E as σ H Q := h
section
variable {g : Int} {F : Type} [CommRing F]
/-! ### values as whole numbers over one bottom -/
def ZV (W : GV g F) (D : Int) (M : Nat) (x : F) : Prop := ∃ z : Int, x * W.i D = W.i z ∧ z.natAbs ≤ M
variable {W : GV g F}
theorem ZV.zero (D : Int) (M : Nat) : ZV W D M 0 := ⟨0, by rw [W.i0]; grind, Nat.zero_le _⟩
theorem ZV.one : ZV W 1 1 1 := ⟨1, by rw [W.i1]; grind, by decide⟩
theorem ZV.mono {D : Int} {M N : Nat} {x : F} (h : ZV W D M x) (hN : M ≤ N) : ZV W D N x := by
  obtain ⟨z, h1, h2⟩ := h
  exact ⟨z, h1, Nat.le_trans h2 hN⟩
theorem ZV.add {D : Int} {M N : Nat} {x y : F} (hx : ZV W D M x) (hy : ZV W D N y) : ZV W D (M + N) (x + y) := by
  obtain ⟨z, h1, h2⟩ := hx
  obtain ⟨w, h3, h4⟩ := hy
  exact ⟨z + w, by rw [W.iadd, ← h1, ← h3]; grind, by omega⟩
theorem ZV.mul {D D' : Int} {M N : Nat} {x y : F} (hx : ZV W D M x) (hy : ZV W D' N y) : ZV W (D * D') (M * N) (x * y) := by
  obtain ⟨z, h1, h2⟩ := hx
  obtain ⟨w, h3, h4⟩ := hy
  exact ⟨z * w, by rw [W.imul, W.imul, ← h1, ← h3]; grind, by rw [Int.natAbs_mul]; exact Nat.mul_le_mul h2 h4⟩
theorem ZV.wide {D : Int} {M : Nat} {x : F} (hx : ZV W D M x) (c : Int) : ZV W (D * c) (M * c.natAbs) x := by
  obtain ⟨z, h1, h2⟩ := hx
  exact ⟨z * c, by rw [W.imul, W.imul, ← h1]; grind, by rw [Int.natAbs_mul]; exact Nat.mul_le_mul_right _ h2⟩
theorem ZV.sum {D : Int} {M : Nat} {f : Nat → F} : ∀ {n : Nat}, (∀ i, i < n → ZV W D M (f i)) → ZV W D (n * M) (SF f n)
  | 0, _ => ZV.zero D _
  | n + 1, h => by
    have := (ZV.sum (n := n) fun i hi => h i (by omega)).add (h n (by omega))
    rw [Nat.succ_mul]
    exact this
theorem ZV.ne {D : Int} {M : Nat} {x : F} (hD : D ≠ 0) (hg : g = 0) (hx : x ≠ 0) {z : Int} (h : x * W.i D = W.i z) : z ≠ 0 := fun e => by
  rw [e, W.i0] at h
  exact W.ine hD (fun q => absurd hg q) (W.dom h hx)
theorem zv_unit (i j : Nat) : ZV W 1 1 (unit i j) := by
  unfold unit
  split
  · exact ZV.one
  · exact ZV.zero _ _
theorem zv_thr {Dt Du : Int} {Mt Mu m : Nat} {t : List (Row F)} {u : Row F} (hl : t.length = m) (ht : ∀ i, i < m → ∀ j, ZV W Dt Mt ((t.getD i zr) j)) (hu : ∀ i, ZV W Du Mu (u i)) (j : Nat) : ZV W (Du * Dt) (m * (Mu * Mt)) (thr t u j) := by
  show ZV W (Du * Dt) (m * (Mu * Mt)) (SF (fun i => u i * (t.getD i zr) j) t.length)
  rw [hl]
  exact ZV.sum fun i hi => (hu i).mul (ht i hi j)
theorem zv_bil {Dt Du Dv : Int} {Mt Mu Mv m : Nat} {t : List (Row F)} {u v : Row F} (hl : t.length = m) (ht : ∀ i, i < m → ∀ j, ZV W Dt Mt ((t.getD i zr) j)) (hu : ∀ i, ZV W Du Mu (u i)) (hv : ∀ i, ZV W Dv Mv (v i)) : ZV W (Du * Dt * Dv) (m * (m * (Mu * Mt) * Mv)) (bil t m u v) :=
  ZV.sum fun j _ => (zv_thr hl ht hu j).mul (hv j)
theorem TZ.zv (hg0 : g = 0) {D : Int} {M : Nat} {a : Int × Int} (h : TZ g D M a) : ZV W D M (W.e a) := by
  subst hg0
  obtain ⟨z, _, h2, h3⟩ := TZ.val (V := W) h
  exact ⟨z, h2, h3⟩
theorem RZ.zv (hg0 : g = 0) {D : Int} {M n : Nat} {r : List (Int × Int)} (h : RZ g D M n r) (j : Nat) : ZV W D M (er W r j) := by
  by_cases hj : j < r.length
  · rw [er_at hj]
    exact (h.2 _ (List.getElem_mem hj)).zv hg0
  · rw [er_out (by omega)]
    exact ZV.zero _ _
theorem tz_of {D : Int} {M : Nat} {a : Int × Int} (h : ∃ l, 4 ≤ l ∧ TN g l a) (hz : g = 0 → ZV W D M (W.e a)) : TZ g D M a := by
  obtain ⟨l, h4, hl⟩ := h
  by_cases hg0 : g = 0
  · subst hg0
    obtain ⟨z, h1, h2⟩ := hz rfl
    exact TZ.ofv h4 hl h1 h2
  · exact ⟨⟨l, h4, hl⟩, fun e => absurd e hg0⟩
/-! ### mirrors by multiples -/
theorem mir_scale (W : GV g F) {B : List (Row F)} {m : Nat} {r : Row F} {k : F} (hk : k ≠ 0) (hr : bil B m r r ≠ 0) : mirF W B m (fun j => k * r j) = mirF W B m r := by
  have e : bil B m (fun j => k * r j) (fun j => k * r j) = k * k * bil B m r r := by
    rw [bil_mull, bil_mulr]
    grind
  have hne : k * k * bil B m r r ≠ 0 := fun z => by
    have h1 : k * k ≠ 0 := fun y => hk (W.dom y hk)
    exact hr (W.dom z h1)
  have h := hv_ok W hne
  have h2 : hv W (k * k * bil B m r r) * (k * k) = hv W (bil B m r r) := hv_is W hr (by rw [← h]; grind)
  funext u j
  unfold mirF
  rw [e, bil_mulr, ← h2]
  grind
/-- how many bits a mirror's table may have -/
def mirE (dt et dr er : Nat) : Nat := 5 + et + 2 * er + dt + 2 * dr
/-- tables whose rows are what a mirror leads letters to -/
def MirT (W : GV g F) (B : List (Row F)) (m : Nat) (r : Row F) (T : List (List (Int × Int))) : Prop := T.length = m ∧ (∀ q ∈ T, q.length = m ∧ ∀ a ∈ q, ∃ l, 4 ≤ l ∧ TN g l a) ∧ ∀ i, i < m → (T.map (er W)).getD i zr = mirF W B m r (unit i)
/-- they are no greater than that -/
theorem mir_sz (hg : g = 0 ∨ Gr5 g) {t : List (List (Int × Int))} {r : List (Int × Int)} {m : Nat} {Dt Dr : Int} {Mt Mr dt et dr er' : Nat} (hm : m ≤ 5) (htl : t.length = m) (ht : ∀ q ∈ t, RZ g Dt Mt m q) (hr : RZ g Dr Mr m r) (hDt : Dt ≠ 0) (hDr : Dr ≠ 0) (bDt : Dt.natAbs ≤ 2 ^ dt) (bMt : Mt ≤ 2 ^ et) (bDr : Dr.natAbs ≤ 2 ^ dr) (bMr : Mr ≤ 2 ^ er') (hw : bil (t.map (er W)) m (er W r) (er W r) ≠ 0) :
    ∃ C : Int, C ≠ 0 ∧ C.natAbs ≤ 2 ^ mirE dt et dr er' ∧ ∀ T, MirT W (t.map (er W)) m (er W r) T → ∀ q ∈ T, RZ g C (2 ^ (mirE dt et dr er' + 2)) m q := by
  by_cases hg0 : g = 0
  · have htz : ∀ i, i < m → ∀ j, ZV W Dt Mt (((t.map (er W)).getD i zr) j) := fun i hi j => by
      rw [getD_map (List.getElem?_eq_getElem (by omega))]
      exact (ht _ (List.getElem_mem (by omega))).zv hg0 j
    have hB : (t.map (er W)).length = m := by rw [List.length_map]; exact htl
    have hrz : ∀ j, ZV W Dr Mr (er W r j) := fun j => hr.zv hg0 j
    obtain ⟨zq, e1, b1⟩ := zv_bil hB htz hrz hrz
    have hDq : Dr * Dt * Dr ≠ 0 := Int.mul_ne_zero (Int.mul_ne_zero hDr hDt) hDr
    have hzq := ZV.ne (M := 0) hDq hg0 hw e1
    have hmm : m * m ≤ 2 ^ 5 := by
      rcases (by omega : m = 0 ∨ m = 1 ∨ m = 2 ∨ m = 3 ∨ m = 4 ∨ m = 5) with rfl | rfl | rfl | rfl | rfl | rfl <;> decide
    have c1 : m * (m * (Mr * Mt) * Mr) ≤ 2 ^ (5 + et + 2 * er') := by
      have : m * (m * (Mr * Mt) * Mr) = m * m * (Mr * Mt * Mr) := by ac_rfl
      rw [this]
      exact pw_le (pw_mul hmm (pw_mul (pw_mul bMr bMt) bMr)) (by omega)
    have c2 : (Dr * Dt * Dr).natAbs ≤ 2 ^ (dt + 2 * dr) := pw_le (pw_abs (pw_abs bDr bDt) bDr) (by omega)
    have c3 : (1 * Dt * Dr).natAbs ≤ 2 ^ (dt + dr) := by
      rw [Int.one_mul]
      exact pw_abs bDt bDr
    have hC0 : zq * (1 * Dt * Dr) * Dr ≠ 0 := Int.mul_ne_zero (Int.mul_ne_zero hzq (Int.mul_ne_zero (Int.mul_ne_zero (by decide) hDt) hDr)) hDr
    have hCb : (zq * (1 * Dt * Dr) * Dr).natAbs ≤ 2 ^ mirE dt et dr er' := by
      unfold mirE
      exact pw_le (pw_abs (pw_abs (Nat.le_trans b1 c1) c3) bDr) (by omega)
    refine ⟨_, hC0, hCb, fun T hT q hq => ?_⟩
    obtain ⟨hTl, hTn, hTe⟩ := hT
    refine ⟨(hTn q hq).1, fun a ha => tz_of (W := W) ((hTn q hq).2 a ha) fun _ => ?_⟩
    obtain ⟨i, hi⟩ := List.getElem?_of_mem hq
    have him := (List.getElem?_eq_some_iff.mp hi).1
    obtain ⟨j, hj⟩ := List.getElem?_of_mem ha
    have hjm := (List.getElem?_eq_some_iff.mp hj).1
    have ev : W.e a = mirF W (t.map (er W)) m (er W r) (unit i) j := by
      rw [← hTe i (by omega), getD_map hi, er_at hjm]
      rw [List.getElem?_eq_getElem hjm] at hj
      rw [Option.some.inj hj]
    obtain ⟨zb, e2, b2⟩ := zv_bil (u := unit i) hB htz (fun k => zv_unit i k) hrz
    obtain ⟨zr', e3, b3⟩ := hrz j
    obtain ⟨zu, e4, b4⟩ := zv_unit (W := W) i j
    rw [ev]
    have hh := hv_ok W hw
    have hz : hv W (bil (t.map (er W)) m (er W r) (er W r)) * W.i zq = W.i (-2) * W.i (Dr * Dt * Dr) := by
      rw [← e1, ← hh]
      grind
    refine ⟨zu * (zq * (1 * Dt * Dr) * Dr) + -2 * (Dr * Dt * Dr) * zb * zr', ?_, ?_⟩
    · unfold mirF
      have e4' : (unit i j : F) = W.i zu := by rw [← e4, W.i1]; grind
      have x1 : W.i (zq * (1 * Dt * Dr) * Dr) = W.i zq * W.i (1 * Dt * Dr) * W.i Dr := by rw [W.imul, W.imul zq]
      have x2 : W.i (zu * (zq * (1 * Dt * Dr) * Dr) + -2 * (Dr * Dt * Dr) * zb * zr') = W.i zu * (W.i zq * W.i (1 * Dt * Dr) * W.i Dr) + W.i (-2) * W.i (Dr * Dt * Dr) * W.i zb * W.i zr' := by
        rw [W.iadd, W.imul zu, x1, W.imul (-2 * (Dr * Dt * Dr) * zb), W.imul (-2 * (Dr * Dt * Dr)), W.imul (-2)]
      rw [x1, x2, ← hz, ← e2, ← e3, e4']
      grind
    · have d1 : (zu * (zq * (1 * Dt * Dr) * Dr)).natAbs ≤ 2 ^ (mirE dt et dr er' + 1) := by
        rw [Int.natAbs_mul]
        exact pw_le (pw_mul (show zu.natAbs ≤ 2 ^ 0 by exact b4) hCb) (by omega)
      have d2 : (-2 * (Dr * Dt * Dr) * zb * zr').natAbs ≤ 2 ^ (mirE dt et dr er' + 1) := by
        have f1 : m * (m * (1 * Mt) * Mr) ≤ 2 ^ (5 + et + er') := by
          have : m * (m * (1 * Mt) * Mr) = m * m * (Mt * Mr) := by rw [Nat.one_mul]; ac_rfl
          rw [this]
          exact pw_le (pw_mul hmm (pw_mul bMt bMr)) (by omega)
        unfold mirE
        exact pw_le (pw_abs (pw_abs (pw_abs (show (-2 : Int).natAbs ≤ 2 ^ 1 by decide) c2) (Nat.le_trans b2 f1)) (Nat.le_trans b3 bMr)) (by omega)
      have := pw_add d1 d2
      exact Nat.le_trans (Int.natAbs_add_le _ _) this
  · refine ⟨1, by decide, Nat.pow_pos (by decide), fun T hT q hq => ⟨(hT.2.1 q hq).1, fun a ha => ⟨(hT.2.1 q hq).2 a ha, fun e => absurd e hg0⟩⟩⟩
/-- a row by whose mirror may be reckoned: its own size, and the size of the mirror's table -/
def MirS (W : GV g F) (t : List (List (Int × Int))) (m dt et : Nat) (r : List (Int × Int)) (E : Nat) : Prop :=
  (∃ (Dr : Int) (Mr dr er' : Nat), RZ g Dr Mr m r ∧ Dr ≠ 0 ∧ Dr.natAbs ≤ 2 ^ dr ∧ Mr ≤ 2 ^ er' ∧ mirE dt et dr er' ≤ 3800) ∧ bil (t.map (er W)) m (er W r) (er W r) ≠ 0 ∧ ∃ C : Int, C ≠ 0 ∧ C.natAbs ≤ 2 ^ E ∧ ∀ T, MirT W (t.map (er W)) m (er W r) T → ∀ q ∈ T, RZ g C (2 ^ (E + 2)) m q
theorem MirS.of (hg : g = 0 ∨ Gr5 g) {t : List (List (Int × Int))} {r : List (Int × Int)} {m : Nat} {Dt Dr : Int} {Mt Mr dt et dr er' : Nat} (hm : m ≤ 5) (htl : t.length = m) (ht : ∀ q ∈ t, RZ g Dt Mt m q) (hr : RZ g Dr Mr m r) (hDt : Dt ≠ 0) (hDr : Dr ≠ 0) (bDt : Dt.natAbs ≤ 2 ^ dt) (bMt : Mt ≤ 2 ^ et) (bDr : Dr.natAbs ≤ 2 ^ dr) (bMr : Mr ≤ 2 ^ er') (hE : mirE dt et dr er' ≤ 3800) (hw : bil (t.map (er W)) m (er W r) (er W r) ≠ 0) : MirS W t m dt et r (mirE dt et dr er') :=
  ⟨⟨Dr, Mr, dr, er', hr, hDr, bDr, bMr, hE⟩, hw, mir_sz hg hm htl ht hr hDt hDr bDt bMt bDr bMr hw⟩
/-- a multiple of a row is as good for the mirror's table -/
theorem MirS.scale {t : List (List (Int × Int))} {r s : List (Int × Int)} {m dt et E : Nat} {k : F} (h : MirS W t m dt et r E) (hk : k ≠ 0) (e : er W s = fun j => k * er W r j) {Dr : Int} {Mr dr er' : Nat} (hs : RZ g Dr Mr m s) (hDr : Dr ≠ 0) (bDr : Dr.natAbs ≤ 2 ^ dr) (bMr : Mr ≤ 2 ^ er') (hE : mirE dt et dr er' ≤ 3800) : MirS W t m dt et s E := by
  obtain ⟨_, hw, C, h1, h2, h3⟩ := h
  refine ⟨⟨Dr, Mr, dr, er', hs, hDr, bDr, bMr, hE⟩, ?_, C, h1, h2, fun T hT => h3 T ?_⟩
  · rw [e, bil_mull, bil_mulr]
    intro z
    exact hw (W.dom (W.dom z hk) hk)
  · unfold MirT at hT ⊢
    rw [e, mir_scale W hk hw] at hT
    exact hT
end
end Fm

namespace Fm
open Lean.Grind PySem L2 Fr Fd
/-! ### either a list or a tuple is walked -/
def iOr (a b : TI) : TI := fun σ H R => a σ H R ∨ b σ H R
theorem pi_or {X : Cx} {tg e : Expr} {a b : TI} (h1 : PI X tg e a) (h2 : PI X tg e b) : PI X tg e (iOr a b) := ⟨fun pins s σ H R I h => h.elim (h1.run pins s σ H R I) (h2.run pins s σ H R I)⟩
theorem w_inl {a b : TI} {σ : L2.St} {H : Hp} {R : It → Hp → Prop} (h : a σ H R) : iOr a b σ H R := .inl h
theorem w_inr {a b : TI} {σ : L2.St} {H : Hp} {R : It → Hp → Prop} (h : b σ H R) : iOr a b σ H R := .inr h
theorem w_rng3 {ta : TA} {σ : L2.St} {H : Hp} {R : It → Hp → Prop} (h : ta σ H fun vs H1 => ∃ (i j c : Int) (n : Nat), vs = [.int i, .int j, .int c] ∧ RgC i j c n ∧ R (Itc i c n) H1) : iRng3 ta σ H R := h
/-! ### comprehensions with two sources -/
section
variable {J J1 : It} {n n1 : Nat} {G G1 : Hp → Prop} {Y Y1 : Nat → Hp → V → Hp → Prop} {g g1 : TG} {tt tt1 : TT} {wi1 : TI} {te : TE} {vs vs1 : List Nat} {σ σ2 : L2.St} {H1 H4 : Hp} {D : Addr} {Qd Nx : Hp → Prop}
end
/-! ### keepers -/
structure KeeperC (K : PySem.W.Frag) : Prop where
  c : Cls K (He.ga K "Keeper")
  nf : NoAttr K (He.ga K "Keeper") "form"
  nt : NoAttr K (He.ga K "Keeper") "table"
def KeepV (K : PySem.W.Frag) (H : Hp) (k f tv : V) : Prop := ∃ p dx, k = .ref p ∧ H p = some (.ins (He.ga K "Keeper") dx [("form", f), ("table", tv)])
theorem KeepV.sm {K : PySem.W.Frag} {H H' : Hp} {k f tv : V} (h : KeepV K H k f tv) (s : Same H H') : KeepV K H' k f tv := by
  obtain ⟨p, dx, e, hp⟩ := h
  exact ⟨p, dx, e, s _ _ hp⟩
theorem w_meth {C : Addr} {m : Str} {sp : Sp} {dvs : List V} {E : XK} {ta : TE} {t : TA} {σ : L2.St} {H : Hp} {Q : VK} (h : ta σ H fun x H1 => ∃ a dx fs, x = .ref a ∧ H1 a = some (.ins C dx fs) ∧ fs.lookup m = none ∧ t σ H1 fun vs H2 => sp (x :: (vs ++ dvs)) H2 Q E) : tMeth C m sp dvs E ta t σ H Q := h
theorem w_bm0 {K : PySem.W.Frag} {T : String} {r : V → List V → Hp → VK → Prop} {to : TE} {σ : L2.St} {H : Hp} {Q : VK} (h : to σ H fun x H1 => tyV K T x H1 ∧ r x [] H1 Q) : tBM0 K T r to σ H Q := h
/-! ### lists of rows compared -/
section
variable {g : Int} {F : Type} [CommRing F]
/-! ### tables as whole numbers over one bottom -/
def wtT (m : Nat) (t : List (List (Int × Int))) : List (List Int) := (List.range t.length).map fun i => ((wrT t.flatten).drop (m * i)).take m
def wtB (t : List (List (Int × Int))) : Int := wrB t.flatten
/-- what the program does to a line -/
def mirdF (line by_ : List Int) (worth twice : Int) : List Int := List.zipWith (fun x y => x * worth - twice * y) line by_
theorem mirs_app (W : GV g F) (B : List (Row F)) (m : Nat) (xs ys : List (Row F)) (u : Row F) : mirsF W B m (xs ++ ys) u = mirsF W B m ys (mirsF W B m xs u) := by
  unfold mirsF
  rw [List.foldl_append]
end
end Fm

namespace Fm
open Lean.Grind PySem L2 Fr Fd
section
variable {g : Int} {F : Type} [CommRing F]
theorem w_cut {t u : TS} {D : Ends} {σ : L2.St} {H : Hp} (Mid : L2.St → Hp → Prop) (h1 : t { D with nx := Mid } σ H) (h2 : ∀ σ' H', Mid σ' H' → u D σ' H') : C8.tCut t u D σ H := ⟨Mid, h1, h2⟩
theorem w_lstRg {ta : TE} {σ : L2.St} {H : Hp} {Q : VK} (h : ta σ H fun x H1 => ∃ n, x = .int n ∧ RgOk 0 n ∧ ∀ q, H1 q = none → Q (.ref q) (upd H1 q (.lst (rgV 0 n)))) : tLstRg (tRg1 ta) σ H Q := h
theorem bil_unit {B : List (Row F)} {m i j : Nat} (hB : B.length = m) (hi : i < m) (hj : j < m) : bil B m (unit i) (unit j) = (B.getD i zr) j := by
  unfold bil
  rw [thr_unit (by omega), SF_congr (g := fun k => unit j k * (B.getD i zr) k) fun k _ => by rw [unit_comm j k]; grind]
  exact SF_unit hj _
/-- a table whose rows are what a map leads letters to -/
def TabL (W : GV g F) (m : Nat) (L : Row F → Row F) (T : List (List (Int × Int))) : Prop := T.length = m ∧ (∀ q ∈ T, q.length = m ∧ ∀ a ∈ q, ∃ l, 4 ≤ l ∧ TN g l a) ∧ ∀ i, i < m → (T.map (er W)).getD i zr = L (unit i)
/-- a table that keeps all products -/
def Keeps (W : GV g F) (B : List (Row F)) (m : Nat) (T : List (List (Int × Int))) : Prop := ∀ i j, i < m → j < m → bil B m ((T.map (er W)).getD i zr) ((T.map (er W)).getD j zr) = (B.getD i zr) j
theorem TabL.keeps {W : GV g F} {B : List (Row F)} {m : Nat} {L : Row F → Row F} {T : List (List (Int × Int))} (h : TabL W m L T) (hB : B.length = m) (hk : ∀ u v, bil B m (L u) (L v) = bil B m u v) : Keeps W B m T := fun i j hi hj => by
  rw [h.2.2 i hi, h.2.2 j hj, hk, bil_unit hB hi hj]
theorem TabL.thr {W : GV g F} {m : Nat} {L : Row F → Row F} {T : List (List (Int × Int))} (h : TabL W m L T) (hL : Lin L) {u : Row F} (hu : ∀ j, m ≤ j → u j = 0) : thr (T.map (er W)) u = L u := thr_lin (by rw [List.length_map]; exact h.1) hL h.2.2 hu
/-! ### mirrors one after another, by whole numbers over one bottom -/
structure Wms (W : GV g F) (B : List (Row F)) (m : Nat) (rs : List (Row F)) (bot : Int) (tops : List (List Int)) (P : Nat) : Prop where
  len : tops.length = m
  row : ∀ l ∈ tops, l.length = m ∧ ∀ x ∈ l, x.natAbs ≤ 2 ^ P
  bb : bot.natAbs ≤ 2 ^ P
  bn : W.i bot ≠ 0
  val : ∀ (i : Nat) (l : List Int), tops[i]? = some l → fr W l = fun j => W.i bot * mirsF W B m rs (unit i) j
end
end Fm

namespace Fm
open Lean.Grind PySem L2 Fr Fd
/-! ### tables compared -/
theorem tabs_eqv : ∀ (t t' : List (List (Int × Int))), PyData.eqvAll (t.map rowD) (t'.map rowD) = decide (t = t')
  | [], [] => by simp [PyData.eqvAll]
  | [], _ :: _ => by simp [PyData.eqvAll]
  | _ :: _, [] => by simp [PyData.eqvAll]
  | a :: r, c :: s => by
    rw [List.map_cons, List.map_cons, PyData.eqvAll, row_eqv, tabs_eqv r s]
    by_cases h1 : a = c <;> by_cases h2 : r = s <;> simp [h1, h2]
theorem w_eqTabB {K : PySem.W.Frag} {H : Hp} {Q : VK} {v v' : V} {t t' : List (List (Int × Int))} (h1 : TabV H v t) (h2 : TabV H v' t') (q : Q (.bl (decide (t = t'))) H) : rEqD K v v' H Q := by
  have sh : ∀ t : List (List (Int × Int)), SeqAt.shaped (.tuple (t.map rowD)) = true := fun t => by
    have l := lay_row t
    exact shaped_of (by rw [PyData.canLay0]; exact l.1) (by rw [PyData.depth]; have := l.2; omega)
  refine ⟨_, _, TabV.dp h1, TabV.dp h2, sh t, sh t', ?_⟩
  rw [PyData.eqv, tabs_eqv]
  exact q
theorem w_eqO {neg : Bool} {C : Addr} {sp : Sp} {E : XK} {a b dx dy : Addr} {fs gs : List (Str × V)} {H : Hp} {Q : VK} (ha : H a = some (.ins C dx fs)) (hb : H b = some (.ins C dy gs)) (h : sp [.ref a, .ref b] H (fun v H' => ∃ r, v = .bl r ∧ Q (.bl (if neg = true then !r else r)) H') E) : rEqO neg C sp E (.ref a) (.ref b) H Q := ⟨a, b, dx, dy, fs, gs, rfl, rfl, ha, hb, h⟩
section
variable {g : Int} {F : Type} [CommRing F]
theorem bil_suml {B : List (Row F)} {m : Nat} (c : Nat → F) (w : Nat → Row F) (v : Row F) : ∀ n, bil B m (fun j => SF (fun i => c i * w i j) n) v = SF (fun i => c i * bil B m (w i) v) n
  | 0 => by
    have := bil_mull (T := B) (m := m) 0 (fun _ => 0) v
    have e : (fun j : Nat => (0 : F) * 0) = fun _ => 0 := funext fun _ => by grind
    rw [e] at this
    show bil B m (fun _ => 0) v = 0
    rw [this]
    grind
  | n + 1 => by
    show bil B m (fun j => SF (fun i => c i * w i j) n + c n * w n j) v = SF (fun i => c i * bil B m (w i) v) n + c n * bil B m (w n) v
    rw [bil_addl (fun j => SF (fun i => c i * w i j) n) (fun j => c n * w n j), bil_suml c w v n, bil_mull]
theorem bil_sumr {B : List (Row F)} {m : Nat} (c : Nat → F) (w : Nat → Row F) (v : Row F) : ∀ n, bil B m v (fun j => SF (fun i => c i * w i j) n) = SF (fun i => c i * bil B m v (w i)) n
  | 0 => by
    have := bil_mulr (T := B) (m := m) 0 v (fun _ => 0)
    have e : (fun j : Nat => (0 : F) * 0) = fun _ => 0 := funext fun _ => by grind
    rw [e] at this
    show bil B m v (fun _ => 0) = 0
    rw [this]
    grind
  | n + 1 => by
    show bil B m v (fun j => SF (fun i => c i * w i j) n + c n * w n j) = SF (fun i => c i * bil B m v (w i)) n + c n * bil B m v (w n)
    rw [bil_addr v (fun j => SF (fun i => c i * w i j) n) (fun j => c n * w n j), bil_sumr c w v n, bil_mulr]
/-- rows of which all products are kept: all rows' are -/
theorem keeps_all {B T : List (Row F)} {m : Nat} (hB : B.length = m) (hT : T.length = m) (h : ∀ i j, i < m → j < m → bil B m (T.getD i zr) (T.getD j zr) = (B.getD i zr) j) (u v : Row F) : bil B m (thr T u) (thr T v) = bil B m u v := by
  show bil B m (fun k => SF (fun i => u i * (T.getD i zr) k) T.length) (thr T v) = _
  rw [hT, bil_suml u (fun i => T.getD i zr), ← bil_sum hB u v]
  refine SF_congr fun i hi => ?_
  congr 1
  show bil B m (T.getD i zr) (fun k => SF (fun j => v j * (T.getD j zr) k) T.length) = SF (fun j => thr B (unit i) j * v j) m
  rw [hT, bil_sumr v (fun j => T.getD j zr)]
  refine SF_congr fun j hj => ?_
  rw [h i j hi hj, thr_unit (by omega)]
  grind
/-! ### fours as rows -/
def qm (x y : Row F) : Row F
  | 0 => x 0 * y 0 - x 1 * y 1 - x 2 * y 2 - x 3 * y 3
  | 1 => x 0 * y 1 + x 1 * y 0 + x 2 * y 3 - x 3 * y 2
  | 2 => x 0 * y 2 - x 1 * y 3 + x 2 * y 0 + x 3 * y 1
  | 3 => x 0 * y 3 + x 1 * y 2 - x 2 * y 1 + x 3 * y 0
  | _ => 0
def qc (x : Row F) : Row F
  | 0 => x 0
  | 1 => - x 1
  | 2 => - x 2
  | 3 => - x 3
  | _ => 0
def qn (x : Row F) : F := x 0 * x 0 + x 1 * x 1 + x 2 * x 2 + x 3 * x 3
theorem row4 {x y : Row F} (h0 : x 0 = y 0) (h1 : x 1 = y 1) (h2 : x 2 = y 2) (h3 : x 3 = y 3) (hx : ∀ j, 4 ≤ j → x j = 0) (hy : ∀ j, 4 ≤ j → y j = 0) : x = y := funext fun j => by
  match j with
  | 0 => exact h0
  | 1 => exact h1
  | 2 => exact h2
  | 3 => exact h3
  | j + 4 => rw [hx _ (by omega), hy _ (by omega)]
theorem qn_mul (c : F) (x : Row F) : qn (fun j => c * x j) = c * c * qn x := by
  simp only [qn]
  grind
/-- a row of three as a four -/
def up (u : Row F) : Row F
  | 0 => 0
  | 1 => u 0
  | 2 => u 1
  | 3 => u 2
  | _ => 0
def dn (v : Row F) : Row F
  | 0 => v 1
  | 1 => v 2
  | 2 => v 3
  | _ => 0
/-- a four, a row, the contrary of the four -/
def sq (q v : Row F) : Row F := qm (qm q v) (qc q)
/-- what times x is 1 -/
noncomputable def iv (W : GV g F) (x : F) : F := @Classical.epsilon F ⟨0⟩ fun y => y * x = 1
theorem iv_ok (W : GV g F) {x : F} (hx : x ≠ 0) : iv W x * x = 1 := by
  have : ∃ y, y * x = 1 := by
    obtain ⟨y, hy⟩ := W.inv x hx
    exact ⟨y, by grind⟩
  exact Classical.epsilon_spec this
/-- the turn of a four -/
noncomputable def trnF (W : GV g F) (q u : Row F) : Row F := fun j => iv W (qn q) * dn (sq q (up u)) j
end
end Fm

namespace Fm
open Lean.Grind PySem L2 Fr Fd
section
variable {g : Int} {F : Type} [CommRing F]
theorem tz_some {D : Int} {M : Nat} {r : List (Int × Int)} (h : ∀ a ∈ r, TZ g D M a) : ∃ k, 4 ≤ k ∧ ∀ a ∈ r, TN g k a := by
  induction r with
  | nil => exact ⟨4, by decide, fun a ha => by cases ha⟩
  | cons a r ih =>
    obtain ⟨k, hk, ht⟩ := ih fun b hb => h b (List.mem_cons_of_mem _ hb)
    obtain ⟨⟨l, hl, hla⟩, _⟩ := h a List.mem_cons_self
    refine ⟨k + l, by omega, fun b hb => ?_⟩
    rcases List.mem_cons.mp hb with rfl | hb
    · exact hla.mono (by omega)
    · exact (ht b hb).mono (by omega)
theorem RZ.some {D : Int} {M n : Nat} {r : List (Int × Int)} (h : RZ g D M n r) : ∃ k, 4 ≤ k ∧ ∀ a ∈ r, TN g k a := tz_some h.2
/-- a row as whole numbers, as small as can be -/
def plR (g : Int) (r : List (Int × Int)) : List (Int × Int) := (plainF g (wrT r)).map fun x => (x, 1)
theorem unit_sup {i n : Nat} (hi : i < n) : ∀ x, n ≤ x → (unit i x : F) = 0 := fun x hx => by
  unfold unit
  rw [if_neg (by omega)]
end
/-- the turn of a four -/
def TurnK {g : Int} {F : Type} [CommRing F] (K : PySem.W.Frag) (W : GV g F) (E : Nat) (H : Hp) (x : V) (r : Row F) : Prop := ∃ (f kv tv : V) (T : List (List (Int × Int))) (Z : Int), KeepV K H x f kv ∧ FormV K H f g tv ∧ TabV H tv (onesF 3) ∧ TabV H kv T ∧ TabL W 3 (trnF W r) T ∧ Z ≠ 0 ∧ Z.natAbs ≤ 2 ^ E ∧ (∀ q ∈ T, RZ g Z (2 ^ E) 3 q)
theorem TurnK.sm {g : Int} {F : Type} [CommRing F] {K : PySem.W.Frag} {W : GV g F} {E : Nat} {H H' : Hp} {x : V} {r : Row F} (h : TurnK K W E H x r) (s : Same H H') : TurnK K W E H' x r := by
  obtain ⟨f, kv, tv, T, Z, h1, h2, h3, h4, h5⟩ := h
  exact ⟨f, kv, tv, T, Z, h1.sm s, h2.sm s, TabV.kt h3 (Kt.of s), TabV.kt h4 (Kt.of s), h5⟩
end Fm

namespace Fm
open Lean.Grind PySem L2 Fr Fd
section
variable {g : Int} {F : Type} [CommRing F]
/-- the double turn of two fours -/
noncomputable def dblF (W : GV g F) (p q u : Row F) : Row F := fun j => iv W (qn p) * qm (qm p u) q j
end
/-- the double turn of two fours, as a keeper -/
def DblK {g : Int} {F : Type} [CommRing F] (K : PySem.W.Frag) (W : GV g F) (E : Nat) (H : Hp) (x : V) (p q : Row F) : Prop := ∃ (f kv tv : V) (T : List (List (Int × Int))) (Z : Int), KeepV K H x f kv ∧ FormV K H f g tv ∧ TabV H tv (onesF 4) ∧ TabV H kv T ∧ TabL W 4 (dblF W p q) T ∧ Z ≠ 0 ∧ Z.natAbs ≤ 2 ^ E ∧ (∀ q ∈ T, RZ g Z (2 ^ E) 4 q)
theorem DblK.sm {g : Int} {F : Type} [CommRing F] {K : PySem.W.Frag} {W : GV g F} {E : Nat} {H H' : Hp} {x : V} {p q : Row F} (h : DblK K W E H x p q) (s : Same H H') : DblK K W E H' x p q := by
  obtain ⟨f, kv, tv, T, Z, h1, h2, h3, h4, h5⟩ := h
  exact ⟨f, kv, tv, T, Z, h1.sm s, h2.sm s, TabV.kt h3 (Kt.of s), TabV.kt h4 (Kt.of s), h5⟩
end Fm

namespace Fm
open Lean.Grind PySem L2 Fr Fd
section
variable {g : Int} {F : Type} [CommRing F]
end
/-- two rows of which none is a multiple, and a third one that they span -/
def Rk2 {g : Int} {F : Type} [Lean.Grind.CommRing F] (W : GV g F) (m : Nat) (r s u : List (Int × Int)) : Prop := ∃ T2 T3 k k', LeastR W m k [r, s] T2 ∧ LeastR W m k' [r, s, u] T3 ∧ ¬ T2.length < 2 ∧ ¬ 2 < T3.length
end Fm

namespace Fm
open PySem PySem.Spec PyProof.Rows L2 Fd Fr
section
variable {g : Int} {F : Type} [Lean.Grind.CommRing F]
/-- the row whose mirror three mirrors make that move within one plane -/
noncomputable def threeR (B : List (Row F)) (m : Nat) (α β : F) (r s : Row F) : Row F := fun j => (-(β * bil B m s s)) * r j + (α * bil B m r r + (β * bil B m r s + β * bil B m r s)) * s j
end
def diffF (g : Int) (m : Nat) (T : List (List (Int × Int))) : List (List (Int × Int)) := List.zipWith (List.zipWith (lessF g)) (onesF m) T
section
variable {g : Int} {F : Type} [Lean.Grind.CommRing F]
end
end Fm

namespace Fm
open PySem PySem.Spec PyProof.Rows L2 Fd Fr
end Fm

namespace Fm
open PySem PySem.Spec PyProof.Rows L2 Fd Fr
section
variable {g : Int} {F : Type} [Lean.Grind.CommRing F]
end
end Fm

namespace Fr
open Lean.Grind
section
variable {F : Type} [CommRing F] {m : Nat} {f : List (Row F) → F}
/-- rows that are moved by multiples of one -/
theorem Alt.moved (a : Alt m f) (u : Row F) (A : Nat → Row F) (c : Nat → F) : ∀ (L : List Nat) (pre : List (Row F)), pre.length + L.length = m →
    f (pre ++ L.map fun i j => A i j + c i * u j) = f (pre ++ L.map A) + SF (fun k => c (L.getD k 0) * f (pre ++ (L.map A).set k u)) L.length
  | [], pre, _ => by
    show f (pre ++ []) = f (pre ++ []) + 0
    grind
  | i :: L, pre, h => by
    rw [List.length_cons] at h
    have hl : ∀ g : Nat → Row F, pre.length + (L.map g).length + 1 = m := fun g => by rw [List.length_map]; omega
    have h1 := a.add pre (A i) (fun j => c i * u j) (L.map fun i j => A i j + c i * u j) (hl _)
    have h2 := a.mul pre (c i) u (L.map fun i j => A i j + c i * u j) (hl _)
    have h3 := Alt.moved a u A c L (pre ++ [A i]) (by rw [List.length_append]; show pre.length + 1 + L.length = m; omega)
    have h4 : f (pre ++ u :: L.map fun i j => A i j + c i * u j) = f (pre ++ u :: L.map A) := by
      have go : ∀ (L : List Nat) (p : List (Row F)), u ∈ p → p.length + L.length = m → f (p ++ L.map fun i j => A i j + c i * u j) = f (p ++ L.map A) := fun L => by
        induction L with
        | nil => exact fun p _ _ => rfl
        | cons i L ih =>
          intro p hp hm
          rw [List.length_cons] at hm
          have e1 := a.clear1 (r := A i) (k := c i) (pre := p) (post := L.map fun i j => A i j + c i * u j) hp (by rw [List.length_map]; omega)
          have e2 := ih (p ++ [A i]) (List.mem_append_left _ hp) (by rw [List.length_append]; show p.length + 1 + L.length = m; omega)
          rw [List.append_assoc, List.append_assoc] at e2
          exact e1.trans e2
      have := go L (pre ++ [u]) (List.mem_append_right _ List.mem_cons_self) (by rw [List.length_append]; show pre.length + 1 + L.length = m; omega)
      rw [List.append_assoc, List.append_assoc] at this
      exact this
    rw [List.append_assoc, List.append_assoc] at h3
    have e : (fun k => c (L.getD k 0) * f (pre ++ [A i] ++ (L.map A).set k u)) = fun k => c ((i :: L).getD (k + 1) 0) * f (pre ++ ((i :: L).map A).set (k + 1) u) := funext fun k => by
      rw [List.append_assoc]
      rfl
    rw [e] at h3
    show f (pre ++ (fun j => A i j + c i * u j) :: L.map fun i j => A i j + c i * u j) = f (pre ++ A i :: L.map A) + SF _ (L.length + 1)
    rw [h1, h2, h4, SF_front]
    have h3' : f (pre ++ A i :: L.map fun i j => A i j + c i * u j) = f (pre ++ A i :: L.map A) + SF (fun k => c ((i :: L).getD (k + 1) 0) * f (pre ++ ((i :: L).map A).set (k + 1) u)) L.length := h3
    rw [h3']
    show _ = f (pre ++ A i :: L.map A) + (c i * f (pre ++ u :: L.map A) + _)
    grind
/-- units with one row put in for one of them -/
theorem dC_unit_set {m k : Nat} (hk : k < m) {u : Row F} (hu : ∀ j, m ≤ j → u j = 0) : dC (((List.range m).map (unit (F := F))).set k u) (List.range m) = u k := by
  have a := dC_alt (F := F) (List.range m)
  rw [List.length_range] at a
  have hl : ((List.range m).map (unit (F := F))).length = m := by rw [List.length_map, List.length_range]
  have ue : u = fun j => SF (fun i => u i * unit i j) m := funext fun j => by
    by_cases hj : j < m
    · rw [SF_one hj (fun i => u i * unit i j) fun i _ hne => by
        show u i * (if j = i then 1 else 0) = 0
        rw [if_neg (fun e => hne e.symm)]
        grind]
      show u j = u j * (if j = j then 1 else 0)
      rw [if_pos rfl]
      grind
    · rw [hu j (by omega)]
      exact (SF_nul fun i hi => by
        show u i * (if j = i then 1 else 0) = 0
        rw [if_neg (by omega)]
        grind).symm
  have hset : ∀ w : Row F, ((List.range m).map (unit (F := F))).set k w = ((List.range m).map unit).take k ++ w :: ((List.range m).map unit).drop (k + 1) := fun w => by
    rw [List.set_eq_take_append_cons_drop, if_pos (by omega)]
  have hpp : (((List.range m).map (unit (F := F))).take k).length + (((List.range m).map (unit (F := F))).drop (k + 1)).length + 1 = m := by
    rw [List.length_take, List.length_drop]
    omega
  have s := a.sum (pre := ((List.range m).map unit).take k) (post := ((List.range m).map unit).drop (k + 1)) hpp u unit m
  rw [← ue] at s
  rw [hset, s]
  have at_ : ∀ j, j < m → ((List.range m).map (unit (F := F)))[j]? = some (unit j) := fun j hj => by
    rw [List.getElem?_map, List.getElem?_range hj]
    rfl
  rw [SF_one hk (fun j => u j * dC (((List.range m).map unit).take k ++ unit j :: ((List.range m).map unit).drop (k + 1)) (List.range m)) fun j hj hne => ?_]
  · have es : ((List.range m).map (unit (F := F))).set k (unit k) = (List.range m).map unit := by
      refine List.ext_getElem? fun j => ?_
      by_cases e : k = j
      · subst e
        rw [List.getElem?_set_self (by omega), at_ k hk]
      · rw [List.getElem?_set_ne e]
    rw [← hset, es, dC_units _ List.nodup_range]
    grind
  · have z : dC (((List.range m).map unit).take k ++ unit j :: ((List.range m).map unit).drop (k + 1)) (List.range m) = (0 : F) := by
      rcases Nat.lt_or_gt_of_ne hne with y | y
      · obtain ⟨p1, p2, e⟩ := List.append_of_mem (List.mem_of_getElem? (show (((List.range m).map (unit (F := F))).take k)[j]? = some (unit j) by rw [List.getElem?_take, if_pos y]; exact at_ j hj))
        rw [e] at hpp ⊢
        rw [List.length_append, List.length_cons] at hpp
        have := a.twice p1 p2 (((List.range m).map unit).drop (k + 1)) (u := unit j) (by omega)
        rw [List.append_assoc]
        exact this
      · obtain ⟨p1, p2, e⟩ := List.append_of_mem (List.mem_of_getElem? (show (((List.range m).map (unit (F := F))).drop (k + 1))[j - (k + 1)]? = some (unit j) by rw [List.getElem?_drop, show k + 1 + (j - (k + 1)) = j by omega]; exact at_ j hj))
        rw [e] at hpp ⊢
        rw [List.length_append, List.length_cons] at hpp
        exact a.twice (((List.range m).map unit).take k) p1 p2 (u := unit j) (by omega)
    rw [z]
    grind
/-- a mirror's determinant -/
theorem mirror_det {M : List (Row F)} {m : Nat} (hM : M.length = m) {c : Nat → F} {r : Row F} (hr : ∀ j, m ≤ j → r j = 0) (h : ∀ i, i < m → M.getD i zr = fun j => unit i j + c i * r j) : dC M (List.range m) = 1 + SF (fun k => c k * r k) m := by
  have a := dC_alt (F := F) (List.range m)
  rw [List.length_range] at a
  have e : M = [] ++ (List.range m).map fun i j => unit i j + c i * r j := by
    refine List.ext_getElem (by rw [List.nil_append, List.length_map, List.length_range, hM]) fun i h1 h2 => ?_
    have := h i (by omega)
    rw [List.getD_eq_getElem?_getD, List.getElem?_eq_getElem h1] at this
    simp only [List.nil_append, List.getElem_map, List.getElem_range]
    exact this
  rw [e, a.moved r unit c (List.range m) [] (by rw [List.length_range]; exact Nat.zero_add m), List.nil_append, dC_units _ List.nodup_range, List.length_range]
  congr 1
  refine SF_congr fun k hk => ?_
  rw [List.nil_append, dC_unit_set hk hr, List.getD_eq_getElem?_getD, List.getElem?_range hk]
  rfl
end
end Fr
namespace Fm
open Lean.Grind PySem PySem.Spec PyProof.Rows L2 Fd Fr
section
variable {g : Int} {F : Type} [CommRing F]
theorem bil_sumL {B : List (Row F)} {m : Nat} {u v : Row F} (hu : ∀ j, m ≤ j → u j = 0) : SF (fun k => bil B m (unit k) v * u k) m = bil B m u v := by
  have hL : Lin (fun (w : Row F) => (fun _ => bil B m w v : Row F)) := ⟨fun a b => funext fun _ => bil_addl a b v, fun c a => funext fun _ => bil_mull c a v⟩
  have e := hL.sum u unit m
  rw [unit_sum hu] at e
  have e0 := congrFun e 0
  refine Eq.trans ?_ e0.symm
  exact SF_congr fun k _ => by grind
/-- the table of a map of rows -/
def tabF (m : Nat) (L : Row F → Row F) : List (Row F) := (List.range m).map fun i => L (unit i)
theorem tabF_at {m i : Nat} (hi : i < m) (L : Row F → Row F) : (tabF m L).getD i zr = L (unit i) := by
  unfold tabF
  rw [List.getD_eq_getElem?_getD, List.getElem?_map, List.getElem?_range hi]
  rfl
theorem tabF_len (m : Nat) (L : Row F → Row F) : (tabF m L).length = m := by unfold tabF; rw [List.length_map, List.length_range]
theorem dC_mirF (W : GV g F) {B : List (Row F)} {m : Nat} {r : Row F} (hr : ∀ j, m ≤ j → r j = 0) (hw : bil B m r r ≠ 0) : dC (tabF m (mirF W B m r)) (List.range m) = -1 := by
  rw [mirror_det (c := fun i => hv W (bil B m r r) * bil B m (unit i) r) (tabF_len m _) hr fun i hi => tabF_at hi _]
  have e : SF (fun k => hv W (bil B m r r) * bil B m (unit k) r * r k) m = hv W (bil B m r r) * SF (fun k => bil B m (unit k) r * r k) m := by
    rw [← SF_mul]
    exact SF_congr fun k _ => by grind
  rw [e, bil_sumL hr, hv_ok W hw, i_two]
  grind
theorem dC_mirs (W : GV g F) {B : List (Row F)} {m : Nat} : ∀ (rs : List (Row F)), (∀ r ∈ rs, (∀ j, m ≤ j → r j = 0) ∧ bil B m r r ≠ 0) → dC (tabF m (mirsF W B m rs)) (List.range m) = sF rs.length
  | [], _ => by
    show dC ((List.range m).map unit) (List.range m) = sF 0
    rw [dC_units _ List.nodup_range]
    rfl
  | r :: rs, h => by
    have ih := dC_mirs W rs fun q hq => h q (List.mem_cons_of_mem _ hq)
    obtain ⟨hr, hw⟩ := h r List.mem_cons_self
    have e : tabF m (mirsF W B m (r :: rs)) = (tabF m (mirF W B m r)).map (thr (tabF m (mirsF W B m rs))) := by
      unfold tabF
      rw [List.map_map]
      refine List.map_congr_left fun i hi => ?_
      have him := List.mem_range.mp hi
      exact (thr_lin (tabF_len m _) (mirs_lin W B m rs) (fun k hk => tabF_at hk _) (u := mirF W B m r (unit i)) fun j hj => by
        unfold mirF
        rw [hr j hj, unit_sup him j hj]
        grind).symm
    rw [e, dC_mul (tabF_len m _) (tabF_len m _) List.length_range, dC_mirF W hr hw, ih, List.length_cons, sF_succ]
    grind
theorem TabL.tab {W : GV g F} {m : Nat} {L : Row F → Row F} {T : List (List (Int × Int))} (h : TabL W m L T) : T.map (er W) = tabF m L := by
  refine List.ext_getElem (by rw [List.length_map, tabF_len, h.1]) fun i h1 h2 => ?_
  have e := h.2.2 i (by rw [tabF_len] at h2; exact h2)
  have e2 := tabF_at (by rw [tabF_len] at h2; exact h2) L
  rw [List.getD_eq_getElem?_getD, List.getElem?_eq_getElem h1] at e
  rw [List.getD_eq_getElem?_getD, List.getElem?_eq_getElem h2] at e2
  exact e.trans e2.symm
theorem TabL.det {W : GV g F} {B : List (Row F)} {m : Nat} {rs : List (List (Int × Int))} {T : List (List (Int × Int))} (h : TabL W m (mirsF W B m (rs.map (er W))) T) (hr : ∀ r ∈ rs, r.length = m ∧ bil B m (er W r) (er W r) ≠ 0) : dC (T.map (er W)) (List.range m) = sF rs.length := by
  rw [h.tab, dC_mirs W _ fun q hq => ?_, List.length_map]
  obtain ⟨r, hr', rfl⟩ := List.mem_map.mp hq
  exact ⟨er_sup (hr r hr').1, (hr r hr').2⟩
end
end Fm
namespace Fm
open Lean.Grind PySem PySem.Spec PyProof.Rows L2 Fd Fr
end Fm

namespace L2
open PySem PySem.Spec PyProof.Rows
section
variable {X : Cx}
/-- a value behind which a word of one's own stands: what follows is shown once -/
def tCutE (t : TE) : TE := fun σ H Q => ∃ M : VK, t σ H M ∧ ∀ v H', M v H' → Q v H'
theorem pe_cutE {e : Expr} {t : TE} (h : PE X e t) : PE X e (tCutE t) := by
  refine ⟨fun pins s σ H Q I hh => ?_⟩
  obtain ⟨M, hm, hq⟩ := hh
  exact thn (h.run pins s σ H M I hm) fun v s1 ⟨x, H1, I1, r1, q1⟩ => ⟨x, H1, I1, r1, hq x H1 q1⟩
end
end L2
namespace Fm
open PySem PySem.Spec PyProof.Rows L2
theorem w_cutE {t : TE} {σ : L2.St} {H : Hp} {Q : VK} (M : VK) (h : t σ H M) (k : ∀ v H', M v H' → Q v H') : tCutE t σ H Q := ⟨M, h, k⟩
end Fm

namespace Fm
open Lean.Grind PySem PySem.Spec PyProof.Rows L2 Fd Fr
section
variable {g : Int} {F : Type} [CommRing F] {W : GV g F}
theorem ZV.neg {D : Int} {M : Nat} {x : F} (hx : ZV W D M x) : ZV W D M (-x) := by
  obtain ⟨z, h1, h2⟩ := hx
  exact ⟨-z, by rw [W.ineg, ← h1]; grind, by omega⟩
theorem ZV.sub {D : Int} {M N : Nat} {x y : F} (hx : ZV W D M x) (hy : ZV W D N y) : ZV W D (M + N) (x - y) := by
  have := hx.add hy.neg
  have e : x + -y = x - y := by grind
  rw [e] at this
  exact this
theorem ZV.mul1 {M N : Nat} {x y : F} (hx : ZV W 1 M x) (hy : ZV W 1 N y) : ZV W 1 (M * N) (x * y) := hx.mul hy
theorem zv_qm {B C : Nat} {x y : Row F} (hx : ∀ j, ZV W 1 B (x j)) (hy : ∀ j, ZV W 1 C (y j)) : ∀ j, ZV W 1 (4 * (B * C)) (qm x y j)
  | 0 => by
    have := (((hx 0).mul1 (hy 0)).sub ((hx 1).mul1 (hy 1))).sub ((hx 2).mul1 (hy 2)) |>.sub ((hx 3).mul1 (hy 3))
    exact this.mono (by omega)
  | 1 => by
    have := (((hx 0).mul1 (hy 1)).add ((hx 1).mul1 (hy 0))).add ((hx 2).mul1 (hy 3)) |>.sub ((hx 3).mul1 (hy 2))
    exact this.mono (by omega)
  | 2 => by
    have := (((hx 0).mul1 (hy 2)).sub ((hx 1).mul1 (hy 3))).add ((hx 2).mul1 (hy 0)) |>.add ((hx 3).mul1 (hy 1))
    exact this.mono (by omega)
  | 3 => by
    have := (((hx 0).mul1 (hy 3)).add ((hx 1).mul1 (hy 2))).sub ((hx 2).mul1 (hy 1)) |>.add ((hx 3).mul1 (hy 0))
    exact this.mono (by omega)
  | n + 4 => ZV.zero _ _
theorem zv_qn {B : Nat} {x : Row F} (hx : ∀ j, ZV W 1 B (x j)) : ZV W 1 (4 * (B * B)) (qn x) := by
  have := (((hx 0).mul1 (hx 0)).add ((hx 1).mul1 (hx 1))).add ((hx 2).mul1 (hx 2)) |>.add ((hx 3).mul1 (hx 3))
  exact this.mono (by omega)
/-- a pair of fours of one norm, its numbers whole and no greater than B where the ground is 0 -/
structure DC (W : GV g F) (B : Nat) (p q : Row F) : Prop where
  n : qn p ≠ 0
  e : qn p = qn q
  zp : g = 0 → ∀ j, ZV W 1 B (p j)
  zq : g = 0 → ∀ j, ZV W 1 B (q j)
  sp : ∀ j, 4 ≤ j → p j = 0
  sq : ∀ j, 4 ≤ j → q j = 0
theorem qn_unit0 : qn (unit 0 : Row F) = 1 := by
  unfold qn unit
  grind
theorem DC.mono {B C : Nat} {p q : Row F} (h : DC W B p q) (hB : B ≤ C) : DC W C p q := ⟨h.n, h.e, fun z j => (h.zp z j).mono hB, fun z j => (h.zq z j).mono hB, h.sp, h.sq⟩
theorem DC.one : DC W 1 (unit 0) (unit 0) := ⟨by rw [qn_unit0]; exact W.ne, rfl, fun _ j => zv_unit 0 j, fun _ j => zv_unit 0 j, unit_sup (by decide), unit_sup (by decide)⟩
theorem DC.neg {B : Nat} {p q : Row F} (h : DC W B p q) : DC W B (fun j => -1 * p j) q :=
  ⟨by rw [qn_mul]; exact fun z => h.n (by grind), by rw [qn_mul, ← h.e]; grind, fun z j => by
    have := (h.zp z j).neg
    have e : -p j = -1 * p j := by grind
    rw [e] at this
    exact this, h.zq, fun j hj => by rw [h.sp j hj]; grind, h.sq⟩
/-- mirrors by pairs: how great the fours may be -/
def bK (M : Nat) : Nat → Nat
  | 0 => 1
  | k + 1 => 4 * (bK M k * (4 * (M * M)))
theorem tz_val (hg : g = 0 ∨ Gr5 g) {a : Int × Int} {D : Int} {M : Nat} (h : ∃ l, 4 ≤ l ∧ TN g l a) (e : g = 0 → ∃ z : Int, W.e a * W.i D = W.i z ∧ z.natAbs ≤ M) : TZ g D M a := by
  obtain ⟨l, hl, ht⟩ := h
  by_cases z : g = 0
  · subst z
    obtain ⟨z, e1, e2⟩ := e rfl
    exact TZ.ofv (V := W) hl ht e1 e2
  · exact ⟨⟨l, hl, ht⟩, fun y => absurd y z⟩
theorem DC.bot {B : Nat} {p q : Row F} (h : DC W B p q) : ∃ D : Int, D ≠ 0 ∧ D.natAbs ≤ 4 * (B * B) + 1 ∧ (g = 0 → qn p = W.i D) := by
  by_cases z : g = 0
  · obtain ⟨n, e, b⟩ := zv_qn (h.zp z)
    rw [W.i1] at e
    refine ⟨n, fun y => h.n ?_, by omega, fun _ => by rw [← e]; grind⟩
    rw [y, W.i0] at e
    grind
  · exact ⟨1, by decide, by omega, fun y => absurd y z⟩
/-- a number whose value over the norm is whole -/
theorem bot_val (hg : g = 0 ∨ Gr5 g) {D : Int} {n : F} (hD : g = 0 → n = W.i D) {M : Nat} {a : Int × Int} (h : ∃ l, 4 ≤ l ∧ TN g l a) (e : g = 0 → ZV W 1 M (W.e a * n)) : TZ g D M a := tz_val (W := W) hg h fun z => by
  obtain ⟨y, e1, e2⟩ := e z
  exact ⟨y, by rw [← e1, W.i1, hD z]; grind, e2⟩
theorem bot_row (hg : g = 0 ∨ Gr5 g) {D : Int} {n : F} (hD : g = 0 → n = W.i D) {M l : Nat} {r : List (Int × Int)} (hl : r.length = l) (h : ∀ a ∈ r, ∃ l, 4 ≤ l ∧ TN g l a) (e : g = 0 → ∀ j, j < l → ZV W 1 M (er W r j * n)) : RZ g D M l r := ⟨hl, fun a ha => by
  obtain ⟨j, hj, rfl⟩ := List.mem_iff_getElem.mp ha
  refine bot_val (W := W) hg hD (h _ ha) fun z => ?_
  rw [← er_at (V := W) hj]
  exact e z j (by omega)⟩
theorem DC.tab (hg : g = 0 ∨ Gr5 g) {B : Nat} {p q : Row F} (h : DC W B p q) {D : Int} (hD : g = 0 → qn p = W.i D) {T : List (List (Int × Int))} (hT : TabL W 4 (dblF W p q) T) : ∀ r ∈ T, RZ g D (16 * (B * B)) 4 r := fun r hr => by
  obtain ⟨i, hi, rfl⟩ := List.mem_iff_getElem.mp hr
  obtain ⟨h1, h2⟩ := hT.2.1 _ hr
  refine bot_row (W := W) hg hD h1 h2 fun z j hj => ?_
  have e := hT.2.2 i (by have := hT.1; omega)
  rw [getD_map (List.getElem?_eq_getElem hi)] at e
  rw [e]
  have e2 : dblF W p q (unit i) j * qn p = qm (qm p (unit i)) q j := by
    show iv W (qn p) * qm (qm p (unit i)) q j * qn p = _
    have := iv_ok W h.n
    grind
  rw [e2]
  exact (zv_qm (zv_qm (h.zp z) (zv_unit i)) (h.zq z) j).mono (by rw [Nat.mul_one, Nat.mul_assoc, ← Nat.mul_assoc]; exact Nat.le_refl _)
/-- the first number other than nought -/
noncomputable def fN (p : Row F) : F := @ite _ (p 0 ≠ 0) (Classical.propDecidable _) (p 0) (@ite _ (p 1 ≠ 0) (Classical.propDecidable _) (p 1) (@ite _ (p 2 ≠ 0) (Classical.propDecidable _) (p 2) (p 3)))
/-- two fours in one row -/
def pq (p q : Row F) : Row F := fun j => if j < 4 then p j else q (j - 4)
end
section
variable {g : Int} {F : Type} [CommRing F] {W : GV g F}
/-- a row of sixteen that stands for the units between x and y -/
def Btw (W : GV g F) (c : Nat) (r : List (Int × Int)) : Prop := RZ g 1 16 16 r ∧ ∀ k, k < 16 → er W r k = qm (qm (unit (c / 4)) (unit (k / 4))) (unit (c % 4)) (k % 4)
end
def tStep3 (K : PySem.W.Frag) (te : TE) : TE := fun σ H Q => te σ H fun x H1 => ∃ a xs, x = .ref a ∧ SqL K H1 a xs ∧ ∀ p ys, H1 p = none → ys.length ≤ xs.length → (∀ y ∈ ys, y ∈ xs) → Q (.ref p) (upd H1 p (.lst ys))
end Fm

namespace Fm
open Lean.Grind PySem PySem.Spec PyProof.Rows L2 Fd Fr
section
variable {g : Int} {F : Type} [CommRing F] {W : GV g F}
end
end Fm

namespace Fm
open Lean.Grind PySem PySem.Spec PyProof.Rows L2 Fd Fr
/-! ### sizes by an oracle: minors of own rows beside the rows P0 at the columns c0 -/
/-- all minors of own rows (at most m), beside P0 at c0, at columns below n: at most N -/
def Orc (P0 : List (List Int)) (c0 : List Nat) (n m : Nat) (Ok : List Int → Prop) (N : Nat) : Prop := ∀ (O : List (List Int)) (cs : List Nat), O.length = cs.length → O.length ≤ m → cs.Nodup → (∀ x ∈ cs, x < n) → (∀ o ∈ O, Ok o) → (dt (O ++ P0) (cs ++ c0)).natAbs ≤ N
theorem Orc.mono {P0 : List (List Int)} {c0 : List Nat} {n m : Nat} {Ok : List Int → Prop} {N N' : Nat} (h : Orc P0 c0 n m Ok N) (e : N ≤ N') : Orc P0 c0 n m Ok N' := fun O cs h1 h2 h3 h4 h5 => Nat.le_trans (h O cs h1 h2 h3 h4 h5) e
theorem nodup_len : ∀ (n : Nat) (cs : List Nat), cs.Nodup → (∀ x ∈ cs, x < n) → cs.length ≤ n
  | 0, [], _, _ => Nat.le_refl _
  | 0, c :: cs, _, h => absurd (h c List.mem_cons_self) (Nat.not_lt_zero _)
  | n + 1, cs, hd, h => by
    have h1 := nodup_len n (cs.erase n) (hd.erase n) fun x hx => by
      have := h x (List.mem_of_mem_erase hx)
      have hne : x ≠ n := fun e => by
        rw [e] at hx
        exact (List.Nodup.not_mem_erase hd) hx
      omega
    have : (cs.erase n).length + 1 ≥ cs.length := by
      by_cases hm : n ∈ cs
      · rw [List.length_erase_of_mem hm]
        omega
      · rw [List.erase_of_not_mem hm]
        omega
    omega
theorem eraseIdx_app {c c0 : List Nat} {j : Nat} (h : j < c.length) : (c ++ c0).eraseIdx j = c.eraseIdx j ++ c0 := List.eraseIdx_append_of_lt_length h _
structure SzY (P0 : List (List Int)) (c0 : List Nat) (n : Nat) (Ok : List Int → Prop) (P O : List (List Int)) (c : List Nat) (rows : List (List Int)) : Prop where
  lc : P.length = c.length
  lr : P.length + O.length = rows.length
  det : dt (P ++ P0) (c ++ c0) ≠ 0
  bP : ∀ o ∈ P, Ok o
  bO : ∀ o ∈ O, Ok o
  nd : c.Nodup
  cn : ∀ x ∈ c, x < n
  piv : ∀ (i : Nat) (r : List Int), i < P.length → rows[i]? = some r → PivP (P ++ P0) (c ++ c0) (P.length - 1 - i) r
  non : ∀ (i : Nat) (o r : List Int), O[i]? = some o → rows[P.length + i]? = some r → NonP (P ++ P0) (c ++ c0) o r
  pri : ∀ r ∈ rows, Prim r ∨ Nul r
theorem SzY.bound {P0 : List (List Int)} {c0 : List Nat} {n N : Nat} {Ok : List Int → Prop} {P O : List (List Int)} {c : List Nat} {rows : List (List Int)} (h : SzY P0 c0 n Ok P O c rows) (l0 : P0.length = c0.length) (hN : Orc P0 c0 n rows.length Ok N) : ∀ r ∈ rows, ∀ x, x < n → (gt r x).natAbs ≤ N := fun r hr x hx => by
  obtain ⟨i, hi⟩ := List.getElem?_of_mem hr
  have hlt := (List.getElem?_eq_some_iff.mp hi).1
  have hlr := h.lr
  have hlc := h.lc
  have hl : (P ++ P0).length = (c ++ c0).length := by rw [List.length_append, List.length_append, h.lc, l0]
  rcases h.pri r hr with hp | hz
  · by_cases hip : i < P.length
    · have hpv := h.piv i r hip hi
      obtain ⟨a, b, ha, hb, e⟩ := hpv.par hl h.det
      refine Nat.le_trans (prim_le hp ha hb e x) ?_
      have hj : P.length - 1 - i < c.length := by omega
      rw [eraseIdx_app hj]
      by_cases hm : x ∈ c.eraseIdx (P.length - 1 - i) ++ c0
      · rw [dt_twice x _ _ hm]
        exact Nat.zero_le _
      · refine hN P (x :: c.eraseIdx (P.length - 1 - i)) ?_ (by omega) ?_ (fun y hy => ?_) h.bP
        · rw [List.length_cons, List.length_eraseIdx_of_lt hj]
          omega
        · exact List.nodup_cons.mpr ⟨fun z => hm (List.mem_append_left _ z), h.nd.sublist (List.eraseIdx_sublist _ _)⟩
        · rcases List.mem_cons.mp hy with rfl | hy
          · exact hx
          · exact h.cn y (List.mem_of_mem_eraseIdx hy)
    · have hO : O[i - P.length]? = some (O[i - P.length]'(by omega)) := List.getElem?_eq_getElem _
      have hnp := h.non (i - P.length) _ r hO (by rw [show P.length + (i - P.length) = i by omega]; exact hi)
      obtain ⟨a, b, ha, hb, e⟩ := hnp.par hl h.det
      refine Nat.le_trans (prim_le hp ha hb e x) ?_
      by_cases hm : x ∈ c ++ c0
      · rw [dt_twice x _ _ hm]
        exact Nat.zero_le _
      · refine hN (O[i - P.length]'(by omega) :: P) (x :: c) (by rw [List.length_cons, List.length_cons, h.lc]) ?_ ?_ (fun y hy => ?_) (fun o ho => ?_)
        · rw [List.length_cons]
          omega
        · exact List.nodup_cons.mpr ⟨fun z => hm (List.mem_append_left _ z), h.nd⟩
        · rcases List.mem_cons.mp hy with rfl | hy
          · exact hx
          · exact h.cn y hy
        · rcases List.mem_cons.mp ho with rfl | ho
          · exact h.bO _ (List.getElem_mem _)
          · exact h.bP o ho
  · rw [hz x]
    exact Nat.zero_le _
theorem SzY.step {P0 : List (List Int)} {c0 : List Nat} {n : Nat} {Ok : List Int → Prop} {at_ place : Nat} {P O : List (List Int)} {c : List Nat} {rows : List (List Int)} {head : List Int} (z : SzY P0 c0 n Ok P O c rows) (l0 : P0.length = c0.length) (hat : at_ < n) (hm : P.length ≤ place) (hh : rows[place]? = some head) (hne : gt head at_ ≠ 0) (hl : ∀ r ∈ rows, r.length = head.length) :
    ∃ o O', SzY P0 c0 n Ok (o :: P) O' (at_ :: c) (stepF 0 at_ P.length place head rows) := by
  have hp := (List.getElem?_eq_some_iff.mp hh).1
  have hlr := z.lr
  have hOl : place - P.length < O.length := by omega
  have hO : O[place - P.length]? = some (O[place - P.length]'hOl) := List.getElem?_eq_getElem _
  have hnon := z.non (place - P.length) _ head hO (by rw [show P.length + (place - P.length) = place by omega]; exact hh)
  have hll : (P ++ P0).length = (c ++ c0).length := by rw [List.length_append, List.length_append, z.lc, l0]
  have hnat : at_ ∉ c := fun y => by
    obtain ⟨_, _, _, _, _, _, hz⟩ := hnon
    exact hne (hz at_ (List.mem_append_left _ y))
  have cl : ∀ r ∈ rows, Clr (gt head at_) (gt r at_) head r (clearF 0 at_ head r) ∧ (Prim (clearF 0 at_ head r) ∨ Nul (clearF 0 at_ head r)) := fun r hr => clear_zero (hl r hr) hne (z.pri r hr)
  refine ⟨O[place - P.length]'hOl, O.eraseIdx (place - P.length), by rw [List.length_cons, List.length_cons, z.lc], ?_, hnon.det hll z.det hne, fun o ho => ?_, fun o ho => z.bO o (List.mem_of_mem_eraseIdx ho), List.nodup_cons.mpr ⟨hnat, z.nd⟩, fun x hx => ?_, fun i r' hi hr => ?_, fun i o r' ho hr => ?_, fun r' hr => ?_⟩
  · rw [step_len hp hm, List.length_cons, List.length_eraseIdx_of_lt hOl]
    omega
  · rcases List.mem_cons.mp ho with rfl | ho
    · exact z.bO _ (List.getElem_mem _)
    · exact z.bP o ho
  · rcases List.mem_cons.mp hx with rfl | hx
    · exact hat
    · exact z.cn x hx
  · rw [List.length_cons] at hi ⊢
    by_cases hi2 : i < P.length
    · obtain ⟨r, er, rfl⟩ := step_piv hp hm hi2 hr
      have := (z.piv i r hi2 er).clear hnon hne (cl r (List.mem_of_getElem? er)).1
      rw [show P.length + 1 - 1 - i = P.length - 1 - i + 1 by omega]
      exact this
    · have ei : i = P.length := by omega
      subst ei
      rw [step_mid hp hm] at hr
      cases hr
      rw [show P.length + 1 - 1 - P.length = 0 by omega]
      exact hnon.head hne
  · rw [List.length_cons, show P.length + 1 + i = P.length + i + 1 by omega] at hr
    obtain ⟨r, er, rfl⟩ := step_non hp hm (by omega) hr
    rw [show P.length + i + 1 - 1 = P.length + i by omega] at er
    refine NonP.clear ?_ hnon hne (cl r (List.mem_of_getElem? er)).1
    rw [List.getElem?_eraseIdx] at ho
    by_cases hi2 : i < place - P.length
    · rw [if_pos hi2] at ho
      refine z.non i o r ho ?_
      unfold skip at er
      rw [if_pos (by omega)] at er
      exact er
    · rw [if_neg hi2] at ho
      refine z.non (i + 1) o r ho ?_
      unfold skip at er
      rw [if_neg (by omega)] at er
      exact er
  · rcases step_mem hr with rfl | ⟨r, hr', rfl⟩
    · exact z.pri _ (List.mem_of_getElem? hh)
    · exact (cl r hr').2
/-- what the program's rows stand for at the start -/
structure SzO (P0 : List (List Int)) (c0 : List Nat) (n : Nat) (Ok : List Int → Prop) (rows : List (List Int)) : Prop where
  l0 : P0.length = c0.length
  d0 : dt P0 c0 ≠ 0
  non : ∀ r ∈ rows, ∃ o, Ok o ∧ NonP P0 c0 o r
theorem SzO.start {P0 : List (List Int)} {c0 : List Nat} {n : Nat} {Ok : List Int → Prop} {rows : List (List Int)} (h : SzO P0 c0 n Ok rows) (hp : ∀ r ∈ rows, Prim r ∨ Nul r) : ∃ O, SzY P0 c0 n Ok [] O [] rows := by
  obtain ⟨O, hl, hO⟩ : ∃ O : List (List Int), O.length = rows.length ∧ ∀ (i : Nat) (o r : List Int), O[i]? = some o → rows[i]? = some r → Ok o ∧ NonP P0 c0 o r := by
    have : ∀ (rows : List (List Int)), (∀ r ∈ rows, ∃ o, Ok o ∧ NonP P0 c0 o r) → ∃ O : List (List Int), O.length = rows.length ∧ ∀ (i : Nat) (o r : List Int), O[i]? = some o → rows[i]? = some r → Ok o ∧ NonP P0 c0 o r := fun rows => by
      induction rows with
      | nil => exact fun _ => ⟨[], rfl, fun i o r h => by simp at h⟩
      | cons r rows ih =>
        intro h
        obtain ⟨o, ho⟩ := h r List.mem_cons_self
        obtain ⟨O, hl, hO⟩ := ih fun q hq => h q (List.mem_cons_of_mem _ hq)
        refine ⟨o :: O, by rw [List.length_cons, List.length_cons, hl], fun i o' r' h1 h2 => ?_⟩
        cases i with
        | zero =>
          cases Option.some.inj h1
          cases Option.some.inj h2
          exact ho
        | succ i => exact hO i o' r' h1 h2
    exact this rows h.non
  refine ⟨O, rfl, by rw [List.length_nil, Nat.zero_add, hl], h.d0, fun o ho => (by cases ho), fun o ho => ?_, List.nodup_nil, fun x hx => (by cases hx), fun i r hi => absurd hi (Nat.not_lt_zero _), fun i o r ho hr => ?_, hp⟩
  · obtain ⟨i, hi⟩ := List.getElem?_of_mem ho
    have hlt := (List.getElem?_eq_some_iff.mp hi).1
    exact (hO i o _ hi (List.getElem?_eq_getElem (by omega))).1
  · rw [List.length_nil, Nat.zero_add] at hr
    exact (hO i o r ho hr).2
section
variable {g : Int} {F : Type} [CommRing F]
/-- what the law's rows stand for -/
structure LSo (P0 : List (List Int)) (c0 : List Nat) (n : Nat) (Ok : List Int → Prop) (Ab N : Nat) : Prop where
  l0 : P0.length = c0.length
  ab : 1 ≤ Ab
  orc : Orc P0 c0 n n Ok N
/-- a row stands for an own row, cleared at c0 -/
def Rep (V : GV g F) (P0 : List (List Int)) (c0 : List Nat) (n : Nat) (Ok : List Int → Prop) (Ab : Nat) (v : Row F) : Prop := ∃ (o : List Int) (b : Int), b ≠ 0 ∧ b.natAbs ≤ Ab ∧ Ok o ∧ ∀ x, x < n → v x * V.i (b * dt P0 c0) = V.i (dt (o :: P0) (x :: c0))
structure LSy (V : GV g F) (P0 : List (List Int)) (c0 : List Nat) (n : Nat) (Ok : List Int → Prop) (Ab : Nat) (O : List (List Int)) (cs : List Nat) (found left : List (List (Int × Int))) : Prop where
  lc : O.length = cs.length
  det : dt (O ++ P0) (cs ++ c0) ≠ 0
  okO : ∀ o ∈ O, Ok o
  nd : cs.Nodup
  cn : ∀ x ∈ cs, x < n
  fnd : ∀ v ∈ found, ∃ j m, cs[j]? = some m ∧ ∀ x, x < n → er V v x * V.i (sg j * dt (O ++ P0) (cs ++ c0)) = V.i (dt (O ++ P0) (x :: (cs.eraseIdx j ++ c0)))
  lft : ∀ v ∈ left, ∃ (o : List Int) (b : Int), b ≠ 0 ∧ b.natAbs ≤ Ab ∧ Ok o ∧ ∀ x, x < n → er V v x * V.i (b * dt (O ++ P0) (cs ++ c0)) = V.i (dt (o :: (O ++ P0)) (x :: (cs ++ c0)))
variable {V : GV g F}
theorem LSy.start {P0 : List (List Int)} {c0 : List Nat} {n : Nat} {Ok : List Int → Prop} {Ab : Nat} {t : List (List (Int × Int))} (hd : dt P0 c0 ≠ 0) (h : ∀ r ∈ t, Rep V P0 c0 n Ok Ab (er V r)) : LSy V P0 c0 n Ok Ab [] [] [] t :=
  ⟨rfl, hd, fun o ho => (by cases ho), List.nodup_nil, fun x hx => (by cases hx), fun v hv => (by cases hv), h⟩
theorem LSy.bound (hg : g = 0 ∨ Gr5 g) (hg0 : g = 0) {P0 : List (List Int)} {c0 : List Nat} {n Ab N k : Nat} {Ok : List Int → Prop} {O : List (List Int)} {cs : List Nat} {found left : List (List (Int × Int))} (lo : LSo P0 c0 n Ok Ab N) (z : LSy V P0 c0 n Ok Ab O cs found left) {v : List (Int × Int)} (hvl : v.length = n) (hv : v ∈ found ++ left) (ht : ∀ a ∈ v, TN g k a) :
    ∀ a ∈ v, a.1.natAbs ≤ Ab * N ∧ a.2.natAbs ≤ Ab * N := fun a ha => by
  obtain ⟨x, hx, rfl⟩ := List.mem_iff_getElem.mp ha
  have ta := ht _ (List.getElem_mem hx)
  have hxn : x < n := by omega
  have hNB : N ≤ Ab * N := Nat.le_mul_of_pos_left _ lo.ab
  have hcl : cs.length ≤ n := nodup_len n cs z.nd z.cn
  have d1 : (dt (O ++ P0) (cs ++ c0)).natAbs ≤ N := lo.orc O cs z.lc (by rw [z.lc]; exact hcl) z.nd z.cn z.okO
  rcases List.mem_append.mp hv with h | h
  · obtain ⟨j, m, hj, e⟩ := z.fnd v h
    have hjl := (List.getElem?_eq_some_iff.mp hj).1
    have e1 := e x hxn
    rw [er_at hx] at e1
    obtain ⟨b1, b2⟩ := tn_by hg hg0 ta (Int.mul_ne_zero (sg_ne j) z.det) e1
    rw [Int.natAbs_mul, sg_one, Nat.one_mul] at b2
    have d2 : (dt (O ++ P0) (x :: (cs.eraseIdx j ++ c0))).natAbs ≤ N := by
      by_cases hm : x ∈ cs.eraseIdx j ++ c0
      · rw [dt_twice x _ _ hm]
        exact Nat.zero_le _
      · have nd2 : (x :: cs.eraseIdx j).Nodup := List.nodup_cons.mpr ⟨fun y => hm (List.mem_append_left _ y), z.nd.sublist (List.eraseIdx_sublist _ _)⟩
        have cn2 : ∀ y ∈ x :: cs.eraseIdx j, y < n := fun y hy => by
          rcases List.mem_cons.mp hy with rfl | hy
          · exact hxn
          · exact z.cn y (List.mem_of_mem_eraseIdx hy)
        have hl2 : O.length = (x :: cs.eraseIdx j).length := by
          rw [List.length_cons, List.length_eraseIdx_of_lt hjl, z.lc]
          omega
        exact lo.orc O (x :: cs.eraseIdx j) hl2 (by rw [z.lc]; exact hcl) nd2 cn2 z.okO
    exact ⟨by omega, by omega⟩
  · obtain ⟨o, b, hb, hbA, ho, e⟩ := z.lft v h
    have e1 := e x hxn
    rw [er_at hx] at e1
    obtain ⟨b1, b2⟩ := tn_by hg hg0 ta (Int.mul_ne_zero hb z.det) e1
    have d2 : (dt (o :: (O ++ P0)) (x :: (cs ++ c0))).natAbs ≤ N := by
      by_cases hm : x ∈ cs ++ c0
      · rw [dt_twice x _ _ hm]
        exact Nat.zero_le _
      · have nd2 : (x :: cs).Nodup := List.nodup_cons.mpr ⟨fun y => hm (List.mem_append_left _ y), z.nd⟩
        have cn2 : ∀ y ∈ x :: cs, y < n := fun y hy => by
          rcases List.mem_cons.mp hy with rfl | hy
          · exact hxn
          · exact z.cn y hy
        have hlen := nodup_len n (x :: cs) nd2 cn2
        rw [List.length_cons] at hlen
        exact lo.orc (o :: O) (x :: cs) (by rw [List.length_cons, List.length_cons, z.lc]) (by rw [List.length_cons, z.lc]; exact hlen) nd2 cn2 fun q hq => by
          rcases List.mem_cons.mp hq with rfl | hq
          · exact ho
          · exact z.okO q hq
    refine ⟨by omega, Nat.le_trans b2 ?_⟩
    rw [Int.natAbs_mul]
    exact Nat.mul_le_mul hbA d1
theorem LSy.step (hg0 : g = 0) {P0 : List (List Int)} {c0 : List Nat} {n Ab k : Nat} {Ok : List Int → Prop} {O : List (List Int)} {cs : List Nat} {found left : List (List (Int × Int))} (z : LSy V P0 c0 n Ok Ab O cs found left) (l0 : P0.length = c0.length) (hkn : k < n) (hkc : k ∉ cs) {v0 head : List (Int × Int)} (hv0 : v0 ∈ left) (hne : er V v0 k ≠ 0) (hh : ∀ x, er V head x * er V v0 k = er V v0 x) {f : List (Int × Int) → List (Int × Int)} (hf : ∀ r ∈ found ++ left, er V (f r) = clr k (er V head) (er V r)) :
    ∃ O', LSy V P0 c0 n Ok Ab O' (k :: cs) (found.map f ++ [head]) (left.map f) := by
  have hll : (O ++ P0).length = (cs ++ c0).length := by rw [List.length_append, List.length_append, z.lc, l0]
  obtain ⟨o, b, hb, hbA, ho, e0⟩ := z.lft v0 hv0
  have vD : V.i (dt (O ++ P0) (cs ++ c0)) ≠ 0 := V.ine z.det fun h => absurd hg0 h
  have vb : V.i b ≠ 0 := V.ine hb fun h => absurd hg0 h
  have hbD : V.i (b * dt (O ++ P0) (cs ++ c0)) ≠ 0 := V.ine (Int.mul_ne_zero hb z.det) fun h => absurd hg0 h
  have hN : V.i (dt (o :: (O ++ P0)) (k :: (cs ++ c0))) ≠ 0 := fun q => by
    have := e0 k hkn
    rw [q] at this
    exact hbD (V.dom this hne)
  have hD' : dt (o :: (O ++ P0)) (k :: (cs ++ c0)) ≠ 0 := fun q => hN (by rw [q, V.i0])
  have hhead : ∀ x, x < n → er V head x * V.i (dt (o :: (O ++ P0)) (k :: (cs ++ c0))) = V.i (dt (o :: (O ++ P0)) (x :: (cs ++ c0))) := fun x hx => by
    rw [← e0 x hx, ← e0 k hkn, ← hh x]
    grind
  refine ⟨o :: O, ?_, hD', fun q hq => ?_, List.nodup_cons.mpr ⟨hkc, z.nd⟩, fun x hx => ?_, fun v hv => ?_, fun v hv => ?_⟩
  · rw [List.length_cons, List.length_cons, z.lc]
  · rcases List.mem_cons.mp hq with rfl | hq
    · exact ho
    · exact z.okO q hq
  · rcases List.mem_cons.mp hx with rfl | hx
    · exact hkn
    · exact z.cn x hx
  · rcases List.mem_append.mp hv with h | h
    · obtain ⟨r, hr, rfl⟩ := List.mem_map.mp h
      obtain ⟨j, m, hj, e⟩ := z.fnd r hr
      refine ⟨j + 1, m, hj, fun x hx => ?_⟩
      rw [hf r (List.mem_append_left _ hr)]
      show (er V r x + -(er V r k) * er V head x) * V.i (sg (j + 1) * dt (o :: (O ++ P0)) (k :: (cs ++ c0))) = V.i (dt (o :: (O ++ P0)) (x :: k :: (cs.eraseIdx j ++ c0)))
      refine V.cancel (z := V.i (dt (O ++ P0) (cs ++ c0))) ?_ vD
      have hjl := (List.getElem?_eq_some_iff.mp hj).1
      have hs := congrArg V.i (dt_piv hll (h := o) (k := k) (j := j) (m := m) (by rw [List.getElem?_append_left hjl]; exact hj) hD' x)
      rw [eraseIdx_app hjl] at hs
      rw [V.ineg, V.isub, V.imul, V.imul, V.imul] at hs
      have ex := e x hx
      have ek := e k hkn
      have hx' := hhead x hx
      rw [V.imul] at ex ek
      rw [sg_succ, V.imul, V.ineg]
      grind
    · rw [List.mem_singleton.mp h]
      refine ⟨0, k, rfl, fun x hx => ?_⟩
      show er V head x * V.i (1 * dt (o :: (O ++ P0)) (k :: (cs ++ c0))) = V.i (dt (o :: (O ++ P0)) (x :: (cs ++ c0)))
      rw [Int.one_mul]
      exact hhead x hx
  · obtain ⟨r, hr, rfl⟩ := List.mem_map.mp hv
    obtain ⟨o1, b1, hb1, hbA1, ho1, e⟩ := z.lft r hr
    refine ⟨o1, b1, hb1, hbA1, ho1, fun x hx => ?_⟩
    rw [hf r (List.mem_append_right _ hr)]
    show (er V r x + -(er V r k) * er V head x) * V.i (b1 * dt (o :: (O ++ P0)) (k :: (cs ++ c0))) = V.i (dt (o1 :: o :: (O ++ P0)) (x :: k :: (cs ++ c0)))
    refine V.cancel (z := V.i (dt (O ++ P0) (cs ++ c0))) ?_ vD
    have hs := congrArg V.i (dt_syl hll (o := o1) (h := o) (k := k) hD' x)
    rw [V.isub, V.imul, V.imul, V.imul] at hs
    have ex := e x hx
    have ek := e k hkn
    rw [V.imul] at ex ek
    have hx' := hhead x hx
    rw [V.imul]
    grind
end
end Fm

namespace Fm
open Lean.Grind PySem PySem.Spec PyProof.Rows L2 Fd Fr
/-! ### minors by their columns' bounds -/
/-- the columns' bounds, multiplied -/
def pA (a : Nat → Nat) : List Nat → Nat
  | [] => 1
  | c :: cs => a c * pA a cs
theorem pA_app (a : Nat → Nat) : ∀ cs ds : List Nat, pA a (cs ++ ds) = pA a cs * pA a ds
  | [], ds => (Nat.one_mul _).symm
  | c :: cs, ds => by
    show a c * pA a (cs ++ ds) = a c * pA a cs * pA a ds
    rw [pA_app a cs ds, Nat.mul_assoc]
theorem pA_perm {a : Nat → Nat} {cs ds : List Nat} (h : cs.Perm ds) : pA a cs = pA a ds := by
  induction h with
  | nil => rfl
  | cons x _ ih =>
    show a x * _ = a x * _
    rw [ih]
  | swap x y l =>
    show a y * (a x * _) = a x * (a y * _)
    rw [Nat.mul_left_comm]
  | trans _ _ h1 h2 => rw [h1, h2]
theorem pA_sub {a : Nat → Nat} (ha : ∀ x, 1 ≤ a x) : ∀ (n : Nat) (cs : List Nat), cs.Nodup → (∀ x ∈ cs, x < n) → pA a cs ≤ pA a (List.range n)
  | 0, [], _, _ => Nat.le_refl _
  | 0, c :: cs, _, h => absurd (h c List.mem_cons_self) (Nat.not_lt_zero _)
  | n + 1, cs, hd, h => by
    rw [List.range_succ, pA_app]
    show _ ≤ pA a (List.range n) * (a n * 1)
    rw [Nat.mul_one]
    by_cases hm : n ∈ cs
    · rw [pA_perm (List.perm_cons_erase hm)]
      show a n * pA a (cs.erase n) ≤ _
      rw [Nat.mul_comm]
      refine Nat.mul_le_mul_right _ (pA_sub ha n (cs.erase n) (hd.erase n) fun x hx => ?_)
      have h1 := h x (List.mem_of_mem_erase hx)
      have hne : x ≠ n := fun e => by
        rw [e] at hx
        exact (List.Nodup.not_mem_erase hd) hx
      omega
    · refine Nat.le_trans (pA_sub ha n cs hd fun x hx => ?_) (Nat.le_mul_of_pos_right _ (ha n))
      have h1 := h x hx
      have hne : x ≠ n := fun e => hm (by rw [← e]; exact hx)
      omega
theorem pA_le {a : Nat → Nat} {A : Nat} : ∀ (cs : List Nat), (∀ x ∈ cs, a x ≤ A) → pA a cs ≤ A ^ cs.length
  | [], _ => Nat.le_refl _
  | c :: cs, h => by
    rw [List.length_cons, Nat.pow_succ, Nat.mul_comm]
    exact Nat.mul_le_mul (h c List.mem_cons_self) (pA_le cs fun x hx => h x (List.mem_cons_of_mem _ hx))
theorem self_mono {m n : Nat} (h : m ≤ n) : m ^ m ≤ n ^ n := by
  rcases Nat.eq_zero_or_pos n with e | e
  · have : m = 0 := by omega
    rw [this, e]
    exact Nat.le_refl _
  · exact Nat.le_trans (Nat.pow_le_pow_left h m) (Nat.pow_le_pow_right e h)
theorem dt_absC {a : Nat → Nat} : ∀ (cs : List Nat) (P : List (List Int)), P.length = cs.length → (∀ i c, (ent P i c).natAbs ≤ a c) → (dt P cs).natAbs ≤ cs.length ^ cs.length * pA a cs
  | [], P, _, _ => Nat.le_refl _
  | c :: cs, P, hl, hA => by
    have hl' : P.length = cs.length + 1 := hl
    show (S (fun i => sg i * ent P i c * dt (P.eraseIdx i) cs) P.length).natAbs ≤ _
    have hb : ∀ i, i < P.length → (sg i * ent P i c * dt (P.eraseIdx i) cs).natAbs ≤ a c * (cs.length ^ cs.length * pA a cs) := fun i hi => by
      rw [Int.natAbs_mul, Int.natAbs_mul]
      have h1 : (sg i).natAbs = 1 := by
        unfold sg
        split <;> rfl
      have h2 := dt_absC (a := a) cs (P.eraseIdx i) (by rw [List.length_eraseIdx_of_lt hi]; omega) fun j c' => by rw [ent_erase]; exact hA _ _
      rw [h1, Nat.one_mul]
      exact Nat.mul_le_mul (hA i c) h2
    refine Nat.le_trans (S_abs hb) ?_
    rw [hl']
    show (cs.length + 1) * (a c * (cs.length ^ cs.length * pA a cs)) ≤ (cs.length + 1) ^ (cs.length + 1) * (a c * pA a cs)
    have h3 : cs.length ^ cs.length ≤ (cs.length + 1) ^ cs.length := Nat.pow_le_pow_left (by omega) _
    have e1 : (cs.length + 1) * (a c * (cs.length ^ cs.length * pA a cs)) = cs.length ^ cs.length * ((cs.length + 1) * (a c * pA a cs)) := by
      simp only [Nat.mul_left_comm, Nat.mul_comm, Nat.mul_assoc]
    have e2 : (cs.length + 1) ^ (cs.length + 1) * (a c * pA a cs) = (cs.length + 1) ^ cs.length * ((cs.length + 1) * (a c * pA a cs)) := by
      rw [Nat.pow_succ, Nat.mul_assoc]
    rw [e1, e2]
    exact Nat.mul_le_mul_right _ h3
theorem ent_app {O P : List (List Int)} {a : Nat → Nat} (hO : ∀ o ∈ O, ∀ x, (gt o x).natAbs ≤ a x) (hP : ∀ i x, (ent P i x).natAbs ≤ a x) (i x : Nat) : (ent (O ++ P) i x).natAbs ≤ a x := by
  by_cases h : i < O.length
  · have e : (O ++ P).getD i [] = O[i] := by rw [List.getD_eq_getElem?_getD, List.getElem?_append_left h, List.getElem?_eq_getElem h]; rfl
    show (gt ((O ++ P).getD i []) x).natAbs ≤ a x
    rw [e]
    exact hO _ (List.getElem_mem h) x
  · have e : (O ++ P).getD i [] = P.getD (i - O.length) [] := by rw [List.getD_eq_getElem?_getD, List.getD_eq_getElem?_getD, List.getElem?_append_right (by omega)]
    show (gt ((O ++ P).getD i []) x).natAbs ≤ a x
    rw [e]
    exact hP (i - O.length) x
theorem ent_mem {P : List (List Int)} {R : Int → Prop} {x : Nat} (h0 : R 0) (h : ∀ p ∈ P, R (gt p x)) (i : Nat) : R (ent P i x) := by
  show R (gt (P.getD i []) x)
  cases e : P[i]? with
  | none =>
    have e2 : P.getD i [] = [] := by rw [List.getD_eq_getElem?_getD, e]; rfl
    rw [e2]
    exact h0
  | some r =>
    have e2 : P.getD i [] = r := by rw [List.getD_eq_getElem?_getD, e]; rfl
    rw [e2]
    exact h r (List.mem_of_getElem? e)
theorem orc_col {P0 : List (List Int)} {c0 : List Nat} {n : Nat} {a : Nat → Nat} {Ok : List Int → Prop} (l0 : P0.length = c0.length) (ha : ∀ x, 1 ≤ a x) (hP : ∀ i x, (ent P0 i x).natAbs ≤ a x) (hO : ∀ o, Ok o → ∀ x, (gt o x).natAbs ≤ a x) : Orc P0 c0 n n Ok ((n + c0.length) ^ (n + c0.length) * (pA a (List.range n) * pA a c0)) := fun O cs h1 h2 h3 h4 h5 => by
  have hcl := nodup_len n cs h3 h4
  refine Nat.le_trans (dt_absC (a := a) (cs ++ c0) (O ++ P0) (by rw [List.length_append, List.length_append, h1, l0]) (ent_app (fun o ho => hO o (h5 o ho)) hP)) ?_
  rw [List.length_append, pA_app]
  exact Nat.mul_le_mul (self_mono (by omega)) (Nat.mul_le_mul_right _ (pA_sub ha n cs h3 h4))
section
variable {g : Int} {F : Type} [CommRing F]
/-- sizes of rows by an oracle: the rows stand for own rows cleared at columns behind theirs -/
def SzR (V : GV g F) (n K : Nat) (t : List (List (Int × Int))) : Prop := ∃ (P0 : List (List Int)) (c0 : List Nat) (Ok : List Int → Prop) (Ab N : Nat), P0.length = c0.length ∧ dt P0 c0 ≠ 0 ∧ (∀ x ∈ c0, n ≤ x) ∧ (∀ x, n ≤ x → x ∉ c0 → (∀ i, ent P0 i x = 0) ∧ ∀ o, Ok o → gt o x = 0) ∧ 1 ≤ Ab ∧ Ab * N < 2 ^ K ∧ Orc P0 c0 n n Ok N ∧ ∀ r ∈ t, Rep V P0 c0 n Ok Ab (er V r)
variable {V : GV g F}
theorem SzR.mono {n K L : Nat} {t : List (List (Int × Int))} (h : SzR V n K t) (e : K ≤ L) : SzR V n L t := by
  obtain ⟨P0, c0, Ok, Ab, N, h1, h2, h3, h4, h5, h6, h7⟩ := h
  exact ⟨P0, c0, Ok, Ab, N, h1, h2, h3, h4, h5, Nat.lt_of_lt_of_le h6 (Nat.pow_le_pow_right (by decide) e), h7⟩
theorem SzR.sub {n K : Nat} {s t : List (List (Int × Int))} (h : SzR V n K t) (e : ∀ r ∈ s, r ∈ t) : SzR V n K s := by
  obtain ⟨P0, c0, Ok, Ab, N, h1, h2, h3, h4, h5, h6, h7, h8⟩ := h
  exact ⟨P0, c0, Ok, Ab, N, h1, h2, h3, h4, h5, h6, h7, fun r hr => h8 r (e r hr)⟩
/-- for the program's whole rows -/
def SzP (n m K : Nat) (rows : List (List Int)) : Prop := ∃ (P0 : List (List Int)) (c0 : List Nat) (Ok : List Int → Prop) (N : Nat), SzO P0 c0 n Ok rows ∧ Orc P0 c0 n m Ok N ∧ N < 2 ^ K
theorem gt_out {r : List Int} {x : Nat} (h : r.length ≤ x) : gt r x = 0 := by
  unfold gt
  rw [List.getD_eq_getElem?_getD, List.getElem?_eq_none h]
  rfl
theorem i_inj (hg0 : g = 0) {a b : Int} (h : V.i a = V.i b) : a = b := by
  have : V.i (a - b) = 0 := by
    rw [V.isub, h]
    grind
  have := (V.ker _ this).1 hg0
  omega
theorem SzR.prog (hg : g = 0 ∨ Gr5 g) (hg0 : g = 0) {n k K : Nat} {t : List (List (Int × Int))} (ht : ∀ r ∈ t, r.length = n ∧ ∀ a ∈ r, TN g k a) (h : SzR V n K t) (m : Nat) : SzP n m K (t.map fun r => plainF 0 (wrT r)) := by
  obtain ⟨P0, c0, Ok, Ab, N, h1, h2, h3, h4, h5, h6, h7, h8⟩ := h
  refine ⟨P0, c0, Ok, N, ⟨h1, h2, fun q hq => ?_⟩, fun O cs g1 g2 g3 g4 g5 => h7 O cs g1 (by rw [g1]; exact nodup_len n cs g3 g4) g3 g4 g5, Nat.lt_of_le_of_lt (Nat.le_mul_of_pos_left _ h5) h6⟩
  obtain ⟨v, hv, rfl⟩ := List.mem_map.mp hq
  obtain ⟨o, b, hb, _, ho, e⟩ := h8 v hv
  obtain ⟨s, hs, es, _⟩ := plain_zero (r := wrT v)
  have hB := (wrB_spec fun x hx => ((ht v hv).2 x hx).pos).1
  have hw := (wr_fr (V := V) hg (ht v hv).2).2
  have hpl : (plainF 0 (wrT v)).length = n := by rw [plain_len, wrT_len, (ht v hv).1]
  have key : ∀ x, x < n → s * (b * dt P0 c0) * gt (plainF 0 (wrT v)) x = wrB v * dt (o :: P0) (x :: c0) := fun x hx => i_inj (V := V) hg0 (by
    have e1 := e x hx
    have e2 := hw x
    rw [← es x] at e2
    rw [V.imul] at e2
    rw [V.imul (wrB v), ← e1, V.imul (s * (b * dt P0 c0)), V.imul s]
    generalize V.i (b * dt P0 c0) = q at *
    grind)
  refine ⟨o, ho, s * (b * dt P0 c0), wrB v * dt P0 c0, fun i => wrB v * (sg (i + 1) * dt ((o :: P0).eraseIdx (i + 1)) c0), Int.mul_ne_zero hs (Int.mul_ne_zero hb h2), Int.mul_ne_zero (by omega) h2, fun x => ?_, fun x hx => gt_out (by rw [hpl]; exact h3 x hx)⟩
  have e3 : S (fun i => wrB v * (sg (i + 1) * dt ((o :: P0).eraseIdx (i + 1)) c0) * ent P0 i x) P0.length = wrB v * S (fun i => sg (i + 1) * dt ((o :: P0).eraseIdx (i + 1)) c0 * ent P0 i x) P0.length := by
    rw [← S_mul]
    exact S_congr fun i _ => by grind
  have e4 := dt_front o P0 c0 x
  rw [e3]
  by_cases hx : x < n
  · rw [key x hx, e4]
    grind
  · rw [gt_out (by rw [hpl]; omega)]
    by_cases hc : x ∈ c0
    · rw [dt_twice x c0 _ hc] at e4
      grind
    · obtain ⟨q1, q2⟩ := h4 x (by omega) hc
      rw [q2 o ho, S_congr (g := fun _ => 0) fun i _ => by rw [q1 i, Int.mul_zero], S_zero]
      grind
theorem SzP.crude {n A k : Nat} {rows : List (List Int)} (h : ∀ r ∈ rows, ∀ x, (gt r x).natAbs ≤ A) (hA : 1 ≤ A) (hB : (rows.length * A) ^ rows.length < 2 ^ k) : SzP n rows.length k rows := by
  refine ⟨[], [], fun o => ∀ x, (gt o x).natAbs ≤ A, (rows.length * A) ^ rows.length, ⟨rfl, by show (1 : Int) ≠ 0; decide, fun r hr => ⟨r, h r hr, 1, 1, fun _ => 0, by decide, by decide, fun x => ?_, fun k hk => by cases hk⟩⟩, fun O cs g1 g2 g3 g4 g5 => ?_, hB⟩
  · show 1 * gt r x = 1 * gt r x + 0
    omega
  · rw [List.append_nil, List.append_nil]
    refine Nat.le_trans (dt_abs (A := A) cs O g1 fun i c => ent_mem (R := fun z => z.natAbs ≤ A) (Nat.zero_le _) (fun p hp => g5 p hp c) i) ?_
    rw [← g1]
    rcases Nat.eq_zero_or_pos rows.length with z | z
    · have : O.length = 0 := by omega
      rw [this, z]
      exact Nat.le_refl _
    · exact pow_mono g2 (Nat.mul_le_mul z hA)
/-- the law's old form -/
theorem SzR.crude (hg : g = 0 ∨ Gr5 g) {n k l A : Nat} {t : List (List (Int × Int))} (ht : ∀ r ∈ t, r.length = n ∧ ∀ a ∈ r, TN g l a) (h : ∀ r ∈ t, (wrB r).natAbs ≤ A ∧ ∀ y ∈ wrT r, y.natAbs ≤ A) (hA : 1 ≤ A) (hB : A * ((n + 1) * A) ^ (n + 1) < 2 ^ k) : SzR V n k t := by
  refine ⟨[], [], fun o => (∀ x, (gt o x).natAbs ≤ A) ∧ ∀ x, n ≤ x → gt o x = 0, A, ((n + 1) * A) ^ (n + 1), rfl, by show (1 : Int) ≠ 0; decide, fun x hx => (by cases hx), fun x hx _ => ⟨fun i => by simp [ent], fun o ho => ho.2 x hx⟩, hA, hB, fun O cs g1 g2 g3 g4 g5 => ?_, fun v hv => ⟨wrT v, wrB v, ?_, (h v hv).1, ⟨fun x => ?_, fun x hx => gt_out (by rw [wrT_len, (ht v hv).1]; exact hx)⟩, fun x _ => ?_⟩⟩
  · rw [List.append_nil, List.append_nil]
    have hcl := nodup_len n cs g3 g4
    refine Nat.le_trans (dt_abs (A := A) cs O g1 fun i c => ent_mem (R := fun z => z.natAbs ≤ A) (Nat.zero_le _) (fun p hp => (g5 p hp).1 c) i) ?_
    exact pow_mono (by omega) (Nat.mul_le_mul (show 1 ≤ n + 1 by omega) hA)
  · have := (wrB_spec fun x hx => ((ht v hv).2 x hx).pos).1
    omega
  · by_cases e : gt (wrT v) x = 0
    · rw [e]
      exact Nat.zero_le _
    · exact (h v hv).2 _ (gt_mem e)
  · have e := (wr_fr (V := V) hg (ht v hv).2).2 x
    have e1 : dt [wrT v] [x] = gt (wrT v) x := by
      show 0 + sg 0 * gt (wrT v) x * 1 = _
      show 0 + 1 * gt (wrT v) x * 1 = _
      omega
    rw [e1, e]
    show er V v x * V.i (wrB v * 1) = _
    rw [Int.mul_one]
    grind
/-- rows over one bottom, by columns -/
theorem SzR.rows (hg : g = 0 ∨ Gr5 g) {n k : Nat} {D : Int} {M : Nat} {t : List (List (Int × Int))} (a : Nat → Nat) (ha : ∀ x, 1 ≤ a x) (ht : ∀ r ∈ t, RZ g D M n r) (hD : D ≠ 0) (h : g = 0 → ∀ r ∈ t, ∀ x, x < n → ZV V D (a x) (er V r x)) (hB : D.natAbs * (n ^ n * pA a (List.range n)) < 2 ^ k) (hg0 : g = 0) : SzR V n k t := by
  refine ⟨[], [], fun o => (∀ x, (gt o x).natAbs ≤ a x) ∧ ∀ x, n ≤ x → gt o x = 0, D.natAbs, n ^ n * pA a (List.range n), rfl, by show (1 : Int) ≠ 0; decide, fun x hx => (by cases hx), fun x hx _ => ⟨fun i => by simp [ent], fun o ho => ho.2 x hx⟩, by omega, hB, ?_, fun v hv => ?_⟩
  · have := orc_col (P0 := []) (c0 := []) (n := n) (a := a) (Ok := fun o => (∀ x, (gt o x).natAbs ≤ a x) ∧ ∀ x, n ≤ x → gt o x = 0) rfl ha (fun i x => by simp [ent]) fun o ho => ho.1
    refine this.mono ?_
    show (n + 0) ^ (n + 0) * (pA a (List.range n) * 1) ≤ _
    rw [Nat.add_zero, Nat.mul_one]
    exact Nat.le_refl _
  · obtain ⟨z, hz⟩ := Classical.axiomOfChoice (fun x : Nat => (by
      by_cases hx : x < n
      · obtain ⟨z, e1, e2⟩ := h hg0 v hv x hx
        exact ⟨z, fun _ => ⟨e1, e2⟩⟩
      · exact ⟨0, fun y => absurd y hx⟩ : ∃ z : Int, x < n → er V v x * V.i D = V.i z ∧ z.natAbs ≤ a x))
    have gz : ∀ x, x < n → gt ((List.range n).map z) x = z x := fun x hx => by
      unfold gt
      rw [List.getD_eq_getElem?_getD, List.getElem?_map, List.getElem?_range hx]
      rfl
    refine ⟨(List.range n).map z, D, hD, Nat.le_refl _, ⟨fun x => ?_, fun x hx => gt_out (by rw [List.length_map, List.length_range]; exact hx)⟩, fun x hx => ?_⟩
    · by_cases hx : x < n
      · rw [gz x hx]
        exact (hz x hx).2
      · rw [gt_out (by rw [List.length_map, List.length_range]; omega)]
        exact Nat.zero_le _
    · have e1 : dt [(List.range n).map z] [x] = gt ((List.range n).map z) x := by
        show 0 + sg 0 * gt ((List.range n).map z) x * 1 = _
        show 0 + 1 * gt ((List.range n).map z) x * 1 = _
        omega
      rw [e1, gz x hx, ← (hz x hx).1]
      show er V v x * V.i (D * 1) = _
      rw [Int.mul_one]
/-- the law's state, by sizes -/
def LSq (V : GV g F) (n k j : Nat) (h : List Nat) (found left : List (List (Int × Int))) : Prop := g = 0 → ∃ P0 c0 Ok Ab N O cs, cs.length = h.length ∧ (∀ x ∈ cs, x < j) ∧ LSo P0 c0 n Ok Ab N ∧ Ab * N < 2 ^ k ∧ LSy V P0 c0 n Ok Ab O cs found left
theorem LSq.start {n k : Nat} {t : List (List (Int × Int))} (hz : g = 0 → SzR V n k t) : LSq V n k 0 [] [] t := fun e => by
  obtain ⟨P0, c0, Ok, Ab, N, h1, h2, h3, h4, h5, h6, h7, h8⟩ := hz e
  exact ⟨P0, c0, Ok, Ab, N, [], [], rfl, fun x hx => (by cases hx), ⟨h1, h5, h7⟩, h6, LSy.start h2 h8⟩
theorem LSq.skip {n k j : Nat} {h : List Nat} {found left : List (List (Int × Int))} (z : LSq V n k j h found left) : LSq V n k (j + 1) h found left := fun e => by
  obtain ⟨P0, c0, Ok, Ab, N, O, cs, a1, a2, a3, a4, a5⟩ := z e
  exact ⟨P0, c0, Ok, Ab, N, O, cs, a1, fun x hx => Nat.lt_succ_of_lt (a2 x hx), a3, a4, a5⟩
end
end Fm

namespace Fm
open Lean.Grind PySem PySem.Spec PyProof.Rows L2 Fd Fr
/-! ### rows moved by mirrors, as own rows cleared at a column for each mirror -/
def cE (n e : Nat) : List Nat := (List.range e).map (n + ·)
theorem cE_len (n e : Nat) : (cE n e).length = e := by unfold cE; rw [List.length_map, List.length_range]
theorem cE_mem {n e x : Nat} : x ∈ cE n e ↔ n ≤ x ∧ x < n + e := by
  unfold cE
  rw [List.mem_map]
  constructor
  · rintro ⟨i, hi, rfl⟩
    rw [List.mem_range] at hi
    omega
  · rintro ⟨h1, h2⟩
    exact ⟨x - n, List.mem_range.mpr (by omega), by omega⟩
theorem cE_succ (n e : Nat) : cE n (e + 1) = cE n e ++ [n + e] := by
  unfold cE
  rw [List.range_succ, List.map_append]
  rfl
theorem dt_congr : ∀ (cs : List Nat) (P Q : List (List Int)), P.length = Q.length → (∀ i c, c ∈ cs → ent P i c = ent Q i c) → dt P cs = dt Q cs
  | [], _, _, _, _ => rfl
  | c :: cs, P, Q, hl, h => by
    show S (fun i => sg i * ent P i c * dt (P.eraseIdx i) cs) P.length = S (fun i => sg i * ent Q i c * dt (Q.eraseIdx i) cs) Q.length
    rw [hl]
    refine S_congr fun i hi => ?_
    rw [h i c List.mem_cons_self, dt_congr cs (P.eraseIdx i) (Q.eraseIdx i) (by rw [List.length_eraseIdx, List.length_eraseIdx, hl]) fun j d hd => by rw [ent_erase, ent_erase]; exact h _ d (List.mem_cons_of_mem _ hd)]
theorem ent_appL {P Q : List (List Int)} {i x : Nat} (h : i < P.length) : ent (P ++ Q) i x = ent P i x := by
  show gt ((P ++ Q).getD i []) x = gt (P.getD i []) x
  rw [List.getD_eq_getElem?_getD, List.getD_eq_getElem?_getD, List.getElem?_append_left h]
theorem ent_last {P : List (List Int)} {q : List Int} {x : Nat} : ent (P ++ [q]) P.length x = gt q x := by
  show gt ((P ++ [q]).getD P.length []) x = gt q x
  rw [List.getD_eq_getElem?_getD, List.getElem?_append_right (Nat.le_refl _), Nat.sub_self]
  rfl
theorem S_succ (f : Nat → Int) (n : Nat) : S f (n + 1) = S f n + f n := rfl
/-- a last row that is nought at all columns but the last -/
theorem dt_last {q : List Int} {k : Nat} : ∀ (c : List Nat) (P : List (List Int)), P.length = c.length → (∀ x ∈ c, gt q x = 0) → dt (P ++ [q]) (c ++ [k]) = dt P c * gt q k
  | [], P, hl, _ => by
    have : P = [] := List.length_eq_zero_iff.mp hl
    subst this
    show 0 + sg 0 * gt q k * 1 = 1 * gt q k
    show 0 + 1 * gt q k * 1 = 1 * gt q k
    omega
  | c0 :: c, P, hl, hq => by
    show S (fun i => sg i * ent (P ++ [q]) i c0 * dt ((P ++ [q]).eraseIdx i) (c ++ [k])) (P ++ [q]).length = S (fun i => sg i * ent P i c0 * dt (P.eraseIdx i) c) P.length * gt q k
    rw [List.length_append, List.length_singleton, S_succ, ent_last, hq c0 List.mem_cons_self, Int.mul_zero, Int.zero_mul, Int.add_zero, Int.mul_comm, ← S_mul]
    refine S_congr fun i hi => ?_
    have hlc : P.length = c.length + 1 := hl
    rw [ent_appL hi, List.eraseIdx_append_of_lt_length hi, dt_last c (P.eraseIdx i) (by rw [List.length_eraseIdx_of_lt hi]; omega) fun x hx => hq x (List.mem_cons_of_mem _ hx)]
    grind
/-- a system: rows of n numbers and e more; cleared at the e columns more -/
structure Sys (n e A1 A0 : Nat) (P0 : List (List Int)) : Prop where
  le : P0.length = e
  len : ∀ p ∈ P0, p.length = n + e
  b1 : ∀ p ∈ P0, ∀ x, x < n → (gt p x).natAbs ≤ A1
  b0 : ∀ p ∈ P0, ∀ x, n ≤ x → (gt p x).natAbs ≤ A0
  det : dt P0 (cE n e) ≠ 0
def Own (n e A1 A0 : Nat) (o : List Int) : Prop := o.length = n + e ∧ (∀ x, x < n → (gt o x).natAbs ≤ A1) ∧ ∀ x, n ≤ x → (gt o x).natAbs ≤ A0
theorem Sys.start (n A1 A0 : Nat) : Sys n 0 A1 A0 [] := ⟨rfl, fun p hp => (by cases hp), fun p hp => (by cases hp), fun p hp => (by cases hp), by show (1 : Int) ≠ 0; decide⟩
def gS (n : Nat) (w : Nat → Int) (p : List Int) : Int := S (fun i => gt p i * w i) n
def extP (n : Nat) (w : Nat → Int) (p : List Int) : List Int := p ++ [2 * gS n w p]
def newP (n e : Nat) (w : Nat → Int) (r : List Int) : List Int := r ++ (List.replicate e 0 ++ [gS n w r])
theorem gt_appL {p q : List Int} {x : Nat} (h : x < p.length) : gt (p ++ q) x = gt p x := by
  unfold gt
  rw [List.getD_eq_getElem?_getD, List.getD_eq_getElem?_getD, List.getElem?_append_left h]
theorem gt_appR {p q : List Int} {x : Nat} (h : p.length ≤ x) : gt (p ++ q) x = gt q (x - p.length) := by
  unfold gt
  rw [List.getD_eq_getElem?_getD, List.getD_eq_getElem?_getD, List.getElem?_append_right h]
theorem gt_rep {e x : Nat} : gt (List.replicate e 0) x = 0 := by
  unfold gt
  rw [List.getD_eq_getElem?_getD, List.getElem?_replicate]
  split <;> rfl
theorem gS_bd {n A1 Mw : Nat} {w : Nat → Int} {p : List Int} (hp : ∀ x, x < n → (gt p x).natAbs ≤ A1) (hw : ∀ x, (w x).natAbs ≤ Mw) : (gS n w p).natAbs ≤ n * (A1 * Mw) := S_abs fun i hi => by
  rw [Int.natAbs_mul]
  exact Nat.mul_le_mul (hp i hi) (hw i)
theorem ext_own {n e A1 A0 Mw : Nat} {w : Nat → Int} {p : List Int} (h : Own n e A1 A0 p) (hw : ∀ x, (w x).natAbs ≤ Mw) (hA : 2 * (n * (A1 * Mw)) ≤ A0) : Own n (e + 1) A1 A0 (extP n w p) := by
  obtain ⟨h1, h2, h3⟩ := h
  refine ⟨by unfold extP; rw [List.length_append, h1]; rfl, fun x hx => ?_, fun x hx => ?_⟩
  · unfold extP
    rw [gt_appL (by omega)]
    exact h2 x hx
  · unfold extP
    by_cases h : x < p.length
    · rw [gt_appL h]
      exact h3 x hx
    · rw [gt_appR (by omega)]
      rcases Nat.eq_zero_or_pos (x - p.length) with z | z
      · rw [z]
        show (2 * gS n w p).natAbs ≤ A0
        rw [Int.natAbs_mul]
        exact Nat.le_trans (Nat.mul_le_mul_left 2 (gS_bd h2 hw)) hA
      · rw [gt_out (by show 1 ≤ _; omega)]
        exact Nat.zero_le _
theorem new_gt {n e : Nat} {w : Nat → Int} {r : List Int} (hr : r.length = n) (x : Nat) : gt (newP n e w r) x = if x < n then gt r x else if x = n + e then gS n w r else 0 := by
  unfold newP
  split
  · rw [gt_appL (by omega)]
  · rw [gt_appR (by omega), hr]
    by_cases h : x - n < e
    · rw [gt_appL (by rw [List.length_replicate]; exact h), gt_rep, if_neg (by omega)]
    · rw [gt_appR (by rw [List.length_replicate]; omega), List.length_replicate]
      split
      · rename_i h1 h2
        rw [h2, show n + e - n - e = 0 by omega]
        rfl
      · exact gt_out (by show 1 ≤ _; omega)
theorem ext_gt {n : Nat} {w : Nat → Int} {p : List Int} {l : Nat} (hp : p.length = l) (x : Nat) : gt (extP n w p) x = if x < l then gt p x else if x = l then 2 * gS n w p else 0 := by
  unfold extP
  split
  · rw [gt_appL (by omega)]
  · rw [gt_appR (by omega), hp]
    split
    · rename_i h1 h2
      rw [h2, Nat.sub_self]
      rfl
    · exact gt_out (by show 1 ≤ _; omega)
theorem ent_map {f : List Int → List Int} {P : List (List Int)} {i x : Nat} (h : i < P.length) : ent (P.map f) i x = gt (f (P.getD i [])) x := by
  show gt ((P.map f).getD i []) x = _
  rw [List.getD_eq_getElem?_getD, List.getD_eq_getElem?_getD, List.getElem?_map, List.getElem?_eq_getElem h]
  rfl
theorem getD_mem {P : List (List Int)} {i : Nat} (h : i < P.length) : P.getD i [] ∈ P := by
  rw [List.getD_eq_getElem?_getD, List.getElem?_eq_getElem h]
  exact List.getElem_mem h
theorem Sys.own {n e A1 A0 : Nat} {P0 : List (List Int)} (h : Sys n e A1 A0 P0) : ∀ p ∈ P0, Own n e A1 A0 p := fun p hp => ⟨h.len p hp, h.b1 p hp, h.b0 p hp⟩
theorem Sys.mirror {n e A1 A0 Mw : Nat} {P0 : List (List Int)} (h : Sys n e A1 A0 P0) {w : Nat → Int} {r : List Int} (hr : r.length = n) (br : ∀ x, (gt r x).natAbs ≤ A1) (hw : ∀ x, (w x).natAbs ≤ Mw) (hA : 2 * (n * (A1 * Mw)) ≤ A0) (hQ : gS n w r ≠ 0) : Sys n (e + 1) A1 A0 (P0.map (extP n w) ++ [newP n e w r]) := by
  have hx := fun p hp => ext_own (h.own p hp) hw hA
  refine ⟨by rw [List.length_append, List.length_map, h.le]; rfl, fun p hp => ?_, fun p hp x hxn => ?_, fun p hp x hxn => ?_, ?_⟩
  · rcases List.mem_append.mp hp with q | q
    · obtain ⟨p', hp', rfl⟩ := List.mem_map.mp q
      exact (hx p' hp').1
    · rw [List.mem_singleton.mp q]
      unfold newP
      rw [List.length_append, List.length_append, List.length_replicate, hr]
      rfl
  · rcases List.mem_append.mp hp with q | q
    · obtain ⟨p', hp', rfl⟩ := List.mem_map.mp q
      exact (hx p' hp').2.1 x hxn
    · rw [List.mem_singleton.mp q, new_gt hr, if_pos hxn]
      exact br x
  · rcases List.mem_append.mp hp with q | q
    · obtain ⟨p', hp', rfl⟩ := List.mem_map.mp q
      exact (hx p' hp').2.2 x hxn
    · rw [List.mem_singleton.mp q, new_gt hr, if_neg (by omega)]
      split
      · refine Nat.le_trans (gS_bd (fun x _ => br x) hw) (Nat.le_trans ?_ hA)
        omega
      · exact Nat.zero_le _
  · rw [cE_succ, dt_last _ _ (by rw [List.length_map, cE_len, h.le]) fun x hx => by
      obtain ⟨h1, h2⟩ := cE_mem.mp hx
      rw [new_gt hr, if_neg (by omega), if_neg (by omega)]]
    rw [new_gt hr, if_neg (by omega), if_pos rfl, dt_congr (cE n e) (P0.map (extP n w)) P0 (List.length_map ..) fun i c hc => ?_]
    · exact Int.mul_ne_zero h.det hQ
    · obtain ⟨h1, h2⟩ := cE_mem.mp hc
      by_cases hi : i < P0.length
      · rw [ent_map hi, ext_gt (h.len _ (getD_mem hi)), if_pos h2]
        rfl
      · have e1 : (P0.map (extP n w)).getD i [] = [] := by rw [List.getD_eq_getElem?_getD, List.getElem?_eq_none (by rw [List.length_map]; omega)]; rfl
        have e2 : P0.getD i [] = [] := by rw [List.getD_eq_getElem?_getD, List.getElem?_eq_none (by omega)]; rfl
        show gt ((P0.map (extP n w)).getD i []) c = gt (P0.getD i []) c
        rw [e1, e2]
section
variable {g : Int} {F : Type} [CommRing F] {V : GV g F}
/-- a row stands for an own row, its sum with rows of the system nought at the columns more -/
def RepL (V : GV g F) (n e : Nat) (P0 : List (List Int)) (o : List Int) (b : Int) (β : Nat → F) (v : Row F) : Prop := b ≠ 0 ∧ (∀ x, x < n → V.i b * v x = V.i (gt o x) + SF (fun i => β i * V.i (gt (P0.getD i []) x)) e) ∧ ∀ x, n ≤ x → x < n + e → V.i (gt o x) + SF (fun i => β i * V.i (gt (P0.getD i []) x)) e = 0
theorem RepL.rep (hg0 : g = 0) {n e A1 A0 : Nat} {P0 : List (List Int)} (hs : Sys n e A1 A0 P0) {Ok : List Int → Prop} {Ab : Nat} {o : List Int} {b : Int} {β : Nat → F} {v : Row F} (h : RepL V n e P0 o b β v) (ho : Ok o) (hb : b.natAbs ≤ Ab) : Rep V P0 (cE n e) n Ok Ab v := by
  obtain ⟨hb0, h1, h2⟩ := h
  refine ⟨o, b, hb0, hb, ho, fun x hx => ?_⟩
  have hD : V.i (dt P0 (cE n e)) ≠ 0 := V.ine hs.det fun z => absurd hg0 z
  let κ : Nat → F := fun i => V.i (sg (i + 1) * dt ((o :: P0).eraseIdx (i + 1)) (cE n e))
  have ef : ∀ y, V.i (dt (o :: P0) (y :: cE n e)) = V.i (dt P0 (cE n e)) * V.i (gt o y) + SF (fun i => κ i * V.i (gt (P0.getD i []) y)) e := fun y => by
    rw [dt_front, V.iadd, V.imul, i_SF, hs.le]
    congr 1
    exact SF_congr fun i _ => V.imul _ _
  have hz : ∀ k, k < (P0.map (fr V)).length → (V.i (dt P0 (cE n e)) * β k - κ k) * dC (P0.map (fr V)) (cE n e) = 0 := fun k hk => by
    refine ker0 (A := P0.map (fr V)) (cs := cE n e) (by rw [List.length_map, cE_len, hs.le]) (fun i => V.i (dt P0 (cE n e)) * β i - κ i) (fun j hj => ?_) k hk
    obtain ⟨j1, j2⟩ := cE_mem.mp hj
    have e1 := ef j
    rw [dt_twice j _ _ hj, V.i0] at e1
    have e2 := h2 j j1 j2
    have e3 : SF (fun i => (V.i (dt P0 (cE n e)) * β i - κ i) * ((P0.map (fr V)).getD i zr) j) (P0.map (fr V)).length = V.i (dt P0 (cE n e)) * SF (fun i => β i * V.i (gt (P0.getD i []) j)) e + SF (fun i => -1 * (κ i * V.i (gt (P0.getD i []) j))) e := by
      rw [List.length_map, hs.le, ← SF_mul, ← SF_add]
      refine SF_congr fun i hi => ?_
      have gi : P0[i]? = some (P0[i]'(by rw [hs.le]; exact hi)) := List.getElem?_eq_getElem _
      have e4 : ((P0.map (fr V)).getD i zr) j = V.i (gt (P0.getD i []) j) := by
        rw [getD_map gi, List.getD_eq_getElem?_getD, gi]
        rfl
      rw [e4]
      grind
    rw [e3, SF_mul]
    grind
  have hk : ∀ k, k < e → V.i (dt P0 (cE n e)) * β k = κ k := fun k hk => by
    have e1 := hz k (by rw [List.length_map, hs.le]; exact hk)
    rw [← dt_fr] at e1
    have := V.dom (x := V.i (dt P0 (cE n e))) (y := V.i (dt P0 (cE n e)) * β k - κ k) (by grind) hD
    grind
  rw [ef x, V.imul]
  have e5 : SF (fun i => κ i * V.i (gt (P0.getD i []) x)) e = V.i (dt P0 (cE n e)) * SF (fun i => β i * V.i (gt (P0.getD i []) x)) e := by
    rw [← SF_mul]
    exact SF_congr fun i hi => by rw [← hk i hi]; grind
  rw [e5]
  have := h1 x hx
  grind
/-- a mirror more -/
theorem RepL.mirror {n e A1 A0 : Nat} {P0 : List (List Int)} (hs : Sys n e A1 A0 P0) {o : List Int} {b : Int} {β : Nat → F} {v : Row F} (ho : o.length = n + e) (h : RepL V n e P0 o b β v) {w : Nat → Int} {r : List Int} (hr : r.length = n) {γ : F} (hγ : γ * V.i (gS n w r) + 2 * SF (fun x => v x * V.i (w x)) n = 0) :
    RepL V n (e + 1) (P0.map (extP n w) ++ [newP n e w r]) (extP n w o) b (fun i => if i < e then β i else V.i b * γ) (fun x => v x + γ * V.i (gt r x)) := by
  obtain ⟨hb0, h1, h2⟩ := h
  have hl : (P0.map (extP n w)).length = e := by rw [List.length_map, hs.le]
  have gd : ∀ i, i < e → ∀ x, gt ((P0.map (extP n w) ++ [newP n e w r]).getD i []) x = gt (extP n w (P0.getD i [])) x := fun i hi x => by
    rw [List.getD_eq_getElem?_getD, List.getElem?_append_left (by omega), List.getElem?_map, List.getD_eq_getElem?_getD, List.getElem?_eq_getElem (by rw [hs.le]; exact hi)]
    rfl
  have gl : ∀ x, gt ((P0.map (extP n w) ++ [newP n e w r]).getD e []) x = gt (newP n e w r) x := fun x => by
    rw [List.getD_eq_getElem?_getD, List.getElem?_append_right (by omega), hl, Nat.sub_self]
    rfl
  have hlen : ∀ i, i < e → (P0.getD i []).length = n + e := fun i hi => hs.len _ (getD_mem (by rw [hs.le]; exact hi))
  have sum : ∀ x, SF (fun i => (if i < e then β i else V.i b * γ) * V.i (gt ((P0.map (extP n w) ++ [newP n e w r]).getD i []) x)) (e + 1) = SF (fun i => β i * V.i (gt (extP n w (P0.getD i [])) x)) e + V.i b * γ * V.i (gt (newP n e w r) x) := fun x => by
    show SF _ e + (if e < e then β e else V.i b * γ) * V.i (gt ((P0.map (extP n w) ++ [newP n e w r]).getD e []) x) = _
    rw [if_neg (Nat.lt_irrefl e), gl]
    congr 1
    exact SF_congr fun i hi => by rw [if_pos hi, gd i hi]
  refine ⟨hb0, fun x hx => ?_, fun x hx1 hx2 => ?_⟩
  · rw [sum, new_gt hr, if_pos hx, ext_gt ho, if_pos (by omega), SF_congr (g := fun i => β i * V.i (gt (P0.getD i []) x)) fun i hi => by rw [ext_gt (hlen i hi), if_pos (by omega)]]
    have := h1 x hx
    grind
  · rw [sum, new_gt hr, if_neg (by omega), ext_gt ho]
    by_cases hxe : x < n + e
    · rw [if_pos hxe, if_neg (by omega), V.i0, SF_congr (g := fun i => β i * V.i (gt (P0.getD i []) x)) fun i hi => by rw [ext_gt (hlen i hi), if_pos hxe]]
      have := h2 x hx1 hxe
      grind
    · have hxx : x = n + e := by omega
      rw [if_neg hxe, if_pos hxx, if_pos hxx, SF_congr (g := fun i => β i * V.i (2 * gS n w (P0.getD i []))) fun i hi => by rw [ext_gt (hlen i hi), if_neg hxe, if_pos hxx]]
      have i2 : V.i 2 = (2 : F) := by
        have : V.i (1 + 1) = V.i 1 + V.i 1 := V.iadd 1 1
        rw [V.i1] at this
        have e2 : V.i 2 = V.i (1 + 1) := rfl
        rw [e2, this]
        grind
      have gsi : ∀ p : List Int, V.i (2 * gS n w p) = 2 * SF (fun x => V.i (gt p x) * V.i (w x)) n := fun p => by
        rw [V.imul, i2]
        unfold gS
        rw [i_SF]
        congr 1
        exact SF_congr fun x _ => V.imul _ _
      have e0 : SF (fun i => β i * V.i (2 * gS n w (P0.getD i []))) e = 2 * SF (fun x => SF (fun i => β i * V.i (gt (P0.getD i []) x) * V.i (w x)) e) n := by
        have q1 : SF (fun i => β i * V.i (2 * gS n w (P0.getD i []))) e = SF (fun i => 2 * SF (fun x => β i * V.i (gt (P0.getD i []) x) * V.i (w x)) n) e := SF_congr fun i hi => by
          rw [gsi]
          have : SF (fun x => β i * V.i (gt (P0.getD i []) x) * V.i (w x)) n = β i * SF (fun x => V.i (gt (P0.getD i []) x) * V.i (w x)) n := by
            rw [← SF_mul]
            exact SF_congr fun x _ => by grind
          rw [this]
          grind
        rw [q1, SF_mul, SF_comm]
      rw [gsi o, e0]
      have e1 : SF (fun x => SF (fun i => β i * V.i (gt (P0.getD i []) x) * V.i (w x)) e) n = SF (fun x => (V.i b * v x + -1 * V.i (gt o x)) * V.i (w x)) n := SF_congr fun x hx => by
        have : SF (fun i => β i * V.i (gt (P0.getD i []) x) * V.i (w x)) e = V.i (w x) * SF (fun i => β i * V.i (gt (P0.getD i []) x)) e := by
          rw [← SF_mul]
          exact SF_congr fun i _ => by grind
        rw [this]
        have := h1 x hx
        grind
      have e2 : SF (fun x => (V.i b * v x + -1 * V.i (gt o x)) * V.i (w x)) n = V.i b * SF (fun x => v x * V.i (w x)) n + -1 * SF (fun x => V.i (gt o x) * V.i (w x)) n := by
        rw [← SF_mul, ← SF_mul, ← SF_add]
        exact SF_congr fun x _ => by grind
      rw [e1, e2]
      grind
end
end Fm

namespace Fm
open Lean.Grind PySem PySem.Spec PyProof.Rows L2 Fd Fr
/-- the first columns mixed -/
def mixP (n n' : Nat) (L : Nat → Nat → Int) (p : List Int) : List Int := (List.range n').map (fun y => S (fun x => gt p x * L x y) n) ++ p.drop n
theorem mix_gt {n n' : Nat} {L : Nat → Nat → Int} {p : List Int} (y : Nat) : gt (mixP n n' L p) y = if y < n' then S (fun x => gt p x * L x y) n else gt p (n + (y - n')) := by
  unfold mixP
  split
  · rename_i h
    rw [gt_appL (by rw [List.length_map, List.length_range]; exact h)]
    unfold gt
    rw [List.getD_eq_getElem?_getD, List.getElem?_map, List.getElem?_range h]
    rfl
  · rw [gt_appR (by rw [List.length_map, List.length_range]; omega), List.length_map, List.length_range]
    unfold gt
    rw [List.getD_eq_getElem?_getD, List.getElem?_drop, List.getD_eq_getElem?_getD]
theorem mix_own {n n' e A1 A0 ML B1 : Nat} {L : Nat → Nat → Int} {p : List Int} (h : Own n e A1 A0 p) (hL : ∀ x y, (L x y).natAbs ≤ ML) (hB : n * (A1 * ML) ≤ B1) : Own n' e B1 A0 (mixP n n' L p) := by
  obtain ⟨h1, h2, h3⟩ := h
  refine ⟨by unfold mixP; rw [List.length_append, List.length_map, List.length_range, List.length_drop, h1]; omega, fun x hx => ?_, fun x hx => ?_⟩
  · rw [mix_gt, if_pos hx]
    refine Nat.le_trans (S_abs fun i hi => ?_) hB
    rw [Int.natAbs_mul]
    exact Nat.mul_le_mul (h2 i hi) (hL i x)
  · rw [mix_gt, if_neg (by omega)]
    exact h3 _ (by omega)
theorem dt_shift {f h : Nat → Nat} : ∀ (cs : List Nat) (P Q : List (List Int)), P.length = Q.length → (∀ i c, c ∈ cs → ent P i (f c) = ent Q i (h c)) → dt P (cs.map f) = dt Q (cs.map h)
  | [], _, _, _, _ => rfl
  | c :: cs, P, Q, hl, e => by
    show S (fun i => sg i * ent P i (f c) * dt (P.eraseIdx i) (cs.map f)) P.length = S (fun i => sg i * ent Q i (h c) * dt (Q.eraseIdx i) (cs.map h)) Q.length
    rw [hl]
    refine S_congr fun i hi => ?_
    rw [e i c List.mem_cons_self, dt_shift cs (P.eraseIdx i) (Q.eraseIdx i) (by rw [List.length_eraseIdx, List.length_eraseIdx, hl]) fun j d hd => by rw [ent_erase, ent_erase]; exact e _ d (List.mem_cons_of_mem _ hd)]
theorem getD_out {P : List (List Int)} {i : Nat} (h : P.length ≤ i) : P.getD i [] = [] := by
  rw [List.getD_eq_getElem?_getD, List.getElem?_eq_none h]
  rfl
theorem Sys.mix {n n' e A1 A0 ML B1 : Nat} {L : Nat → Nat → Int} {P0 : List (List Int)} (h : Sys n e A1 A0 P0) (hL : ∀ x y, (L x y).natAbs ≤ ML) (hB : n * (A1 * ML) ≤ B1) : Sys n' e B1 A0 (P0.map (mixP n n' L)) := by
  have own := fun p hp => mix_own (n' := n') (h.own p hp) hL hB
  have mem : ∀ p ∈ P0.map (mixP n n' L), Own n' e B1 A0 p := fun p hp => by
    obtain ⟨q, hq, rfl⟩ := List.mem_map.mp hp
    exact own q hq
  refine ⟨by rw [List.length_map, h.le], fun p hp => (mem p hp).1, fun p hp => (mem p hp).2.1, fun p hp => (mem p hp).2.2, ?_⟩
  have e1 : dt (P0.map (mixP n n' L)) (cE n' e) = dt P0 (cE n e) := dt_shift _ _ _ (List.length_map ..) fun i c hc => by
    show gt ((P0.map (mixP n n' L)).getD i []) (n' + c) = gt (P0.getD i []) (n + c)
    by_cases hi : i < P0.length
    · have : (P0.map (mixP n n' L)).getD i [] = mixP n n' L (P0.getD i []) := by
        rw [List.getD_eq_getElem?_getD, List.getElem?_map, List.getD_eq_getElem?_getD, List.getElem?_eq_getElem hi]
        rfl
      rw [this, mix_gt, if_neg (by omega), show n + (n' + c - n') = n + c by omega]
    · rw [getD_out (by rw [List.length_map]; omega), getD_out (by omega)]
      rfl
  rw [e1]
  exact h.det
section
variable {g : Int} {F : Type} [CommRing F] {V : GV g F}
theorem RepL.congr {n e : Nat} {P0 : List (List Int)} {o : List Int} {b : Int} {β : Nat → F} {u v : Row F} (h : RepL V n e P0 o b β u) (he : ∀ x, x < n → u x = v x) : RepL V n e P0 o b β v := ⟨h.1, fun x hx => by rw [← he x hx]; exact h.2.1 x hx, h.2.2⟩
theorem RepL.mix {n n' e A1 A0 : Nat} {P0 : List (List Int)} (hs : Sys n e A1 A0 P0) {L : Nat → Nat → Int} {o : List Int} {b : Int} {β : Nat → F} {v : Row F} (h : RepL V n e P0 o b β v) : RepL V n' e (P0.map (mixP n n' L)) (mixP n n' L o) b β (fun y => SF (fun x => v x * V.i (L x y)) n) := by
  obtain ⟨hb0, h1, h2⟩ := h
  have gd : ∀ i, i < e → ∀ y, gt ((P0.map (mixP n n' L)).getD i []) y = gt (mixP n n' L (P0.getD i [])) y := fun i hi y => by
    rw [List.getD_eq_getElem?_getD, List.getElem?_map, List.getD_eq_getElem?_getD, List.getElem?_eq_getElem (by rw [hs.le]; exact hi)]
    rfl
  refine ⟨hb0, fun y hy => ?_, fun y hy1 hy2 => ?_⟩
  · have gsi : ∀ p : List Int, V.i (S (fun x => gt p x * L x y) n) = SF (fun x => V.i (gt p x) * V.i (L x y)) n := fun p => by
      rw [i_SF]
      exact SF_congr fun x _ => V.imul _ _
    have q1 : SF (fun i => β i * V.i (gt ((P0.map (mixP n n' L)).getD i []) y)) e = SF (fun i => SF (fun x => β i * V.i (gt (P0.getD i []) x) * V.i (L x y)) n) e := SF_congr fun i hi => by
      rw [gd i hi, mix_gt, if_pos hy, gsi, ← SF_mul]
      exact SF_congr fun x _ => by grind
    rw [mix_gt, if_pos hy, gsi, q1, SF_comm, ← SF_mul, ← SF_add]
    refine SF_congr fun x hx => ?_
    have e1 : SF (fun i => β i * V.i (gt (P0.getD i []) x) * V.i (L x y)) e = V.i (L x y) * SF (fun i => β i * V.i (gt (P0.getD i []) x)) e := by
      rw [← SF_mul]
      exact SF_congr fun i _ => by grind
    rw [e1]
    have := h1 x hx
    grind
  · rw [mix_gt, if_neg (by omega), SF_congr (g := fun i => β i * V.i (gt (P0.getD i []) (n + (y - n')))) fun i hi => by rw [gd i hi, mix_gt, if_neg (by omega)]]
    exact h2 _ (by omega) (by omega)
/-- a row and the letter that it came from -/
def cat (m : Nat) (u e : Row F) : Row F := fun x => if x < m then u x else e (x - m)
theorem SF_app (f : Nat → F) (a : Nat) : ∀ b, SF f (a + b) = SF f a + SF (fun i => f (a + i)) b
  | 0 => by
    show SF f a = SF f a + 0
    grind
  | b + 1 => by
    show SF f (a + b) + f (a + b) = SF f a + (SF (fun i => f (a + i)) b + f (a + b))
    rw [SF_app f a b]
    grind
/-- all keepers' letters, moved by mirrors -/
theorem mirs_rep (hg0 : g = 0) {m Dm A1 A0 Mt Mr : Nat} {Dt b : Int} {B : List (Row F)} (hB : B.length = m) (hDt : Dt ≠ 0) (hBz : ∀ i, i < m → ∀ j, ZV V Dt Mt ((B.getD i zr) j)) (h1 : 1 ≤ A1) (hMr : Mr ≤ A1) (hA : 2 * (2 * m * (A1 * (m * (m * (1 * Mt) * Mr)))) ≤ A0) :
    ∀ (rs : List (List (Int × Int))) (e : Nat) (P0 : List (List Int)) (u : Nat → Row F), (∀ r ∈ rs, (∃ Dr : Int, Dr ≠ 0 ∧ RZ g Dr Mr m r) ∧ bil B m (er V r) (er V r) ≠ 0) → Sys (2 * m) e A1 A0 P0 → (∀ a, a < m → (∀ j, m ≤ j → u a j = 0) ∧ ∃ o β, Own (2 * m) e A1 A0 o ∧ RepL V (2 * m) e P0 o b β (cat m (u a) (unit a))) →
    ∃ P1, Sys (2 * m) (e + rs.length) A1 A0 P1 ∧ ∀ a, a < m → ∃ o β, Own (2 * m) (e + rs.length) A1 A0 o ∧ RepL V (2 * m) (e + rs.length) P1 o b β (cat m (mirsF V B m (rs.map (er V)) (u a)) (unit a))
  | [], e, P0, u, _, hs, hu => ⟨P0, hs, fun a ha => (hu a ha).2⟩
  | r :: rs, e, P0, u, hr, hs, hu => by
    obtain ⟨⟨Dr, hDr, hrz⟩, hrw⟩ := hr r List.mem_cons_self
    have hDrF : V.i Dr ≠ 0 := V.ine hDr fun z => absurd hg0 z
    have hDtF : V.i (Dt * Dr) ≠ 0 := V.ine (Int.mul_ne_zero hDt hDr) fun z => absurd hg0 z
    obtain ⟨y, hy⟩ := V.inv _ hDrF
    -- the row's whole numbers
    obtain ⟨z, hz⟩ := Classical.axiomOfChoice (fun j : Nat => (hrz.zv hg0 j : ZV V Dr Mr (er V r j)))
    obtain ⟨q, hq⟩ := Classical.axiomOfChoice (fun i : Nat => (zv_bil hB hBz (fun j => zv_unit i j) (fun j => hrz.zv hg0 j) : ZV V (1 * Dt * Dr) (m * (m * (1 * Mt) * Mr)) (bil B m (unit i) (er V r))))
    have ho : ∀ j, m ≤ j → er V r j = 0 := er_sup hrz.1
    let rI : List Int := (List.range (2 * m)).map fun x => if x < m then z x else 0
    let w : Nat → Int := fun i => if i < m then q i else 0
    have hrl : rI.length = 2 * m := by
      show ((List.range (2 * m)).map _).length = 2 * m
      rw [List.length_map, List.length_range]
    have rg : ∀ x, x < 2 * m → gt rI x = if x < m then z x else 0 := fun x hx => by
      show ((List.range (2 * m)).map _).getD x 0 = _
      rw [List.getD_eq_getElem?_getD, List.getElem?_map, List.getElem?_range hx]
      rfl
    have rgb : ∀ x, (gt rI x).natAbs ≤ A1 := fun x => by
      by_cases hx : x < 2 * m
      · rw [rg x hx]
        split
        · exact Nat.le_trans (hz x).2 hMr
        · exact Nat.zero_le _
      · rw [gt_out (by rw [hrl]; omega)]
        exact Nat.zero_le _
    have wb : ∀ x, (w x).natAbs ≤ m * (m * (1 * Mt) * Mr) := fun x => by
      show (if x < m then q x else 0).natAbs ≤ _
      split
      · exact (hq x).2
      · exact Nat.zero_le _
    have wi : ∀ x, x < m → V.i (w x) = bil B m (unit x) (er V r) * V.i (Dt * Dr) := fun x hx => by
      show V.i (if x < m then q x else 0) = _
      rw [if_pos hx, ← (hq x).1, Int.one_mul]
    have wsum : ∀ (s t' : Row F), (∀ j, m ≤ j → s j = 0) → SF (fun x => (cat m s t') x * V.i (w x)) (2 * m) = bil B m s (er V r) * V.i (Dt * Dr) := fun s t' hs' => by
      rw [show 2 * m = m + m by omega, SF_app, SF_nul (f := fun i => cat m s t' (m + i) * V.i (w (m + i))) fun i hi => by
        show _ * V.i (if m + i < m then q (m + i) else 0) = 0
        rw [if_neg (by omega), V.i0]
        grind, ← bil_sumL (B := B) hs']
      have : SF (fun x => cat m s t' x * V.i (w x)) m = V.i (Dt * Dr) * SF (fun k => bil B m (unit k) (er V r) * s k) m := by
        rw [← SF_mul]
        refine SF_congr fun x hx => ?_
        show (if x < m then s x else t' (x - m)) * V.i (w x) = _
        rw [if_pos hx, wi x hx]
        grind
      rw [this]
      grind
    have gsr : V.i (gS (2 * m) w rI) = V.i Dr * (bil B m (er V r) (er V r) * V.i (Dt * Dr)) := by
      have e1 := wsum (er V r) (fun _ => 0) ho
      rw [← e1]
      unfold gS
      rw [i_SF, ← SF_mul]
      refine SF_congr fun x hx => ?_
      rw [V.imul, rg x hx]
      show V.i (if x < m then z x else 0) * _ = V.i Dr * ((if x < m then er V r x else 0) * _)
      split
      · have := (hz x).1
        rw [← this]
        grind
      · rw [V.i0]
        grind
    have hQ : gS (2 * m) w rI ≠ 0 := fun e0 => by
      rw [e0, V.i0] at gsr
      exact hrw (V.dom (x := V.i (Dt * Dr)) (by
        have := V.dom gsr.symm hDrF
        grind) hDtF)
    have hs2 := hs.mirror hrl rgb wb hA hQ
    have nxt := mirs_rep (Dm := Dm) (b := b) hg0 hB hDt hBz h1 hMr hA rs (e + 1) _ (fun a => mirF V B m (er V r) (u a)) (fun s hs' => hr s (List.mem_cons_of_mem _ hs')) hs2 fun a ha => by
      obtain ⟨hua, o, β, hown, hrep⟩ := hu a ha
      have hsup : ∀ j, m ≤ j → mirF V B m (er V r) (u a) j = 0 := fun j hj => by
        show u a j + _ * er V r j = 0
        rw [hua j hj, ho j hj]
        grind
      have hm := RepL.mirror hs hown.1 hrep hrl (w := w) (γ := hv V (bil B m (er V r) (er V r)) * bil B m (u a) (er V r) * y) (by
          rw [wsum (u a) (unit a) hua, gsr]
          have h2 := hv_ok V hrw
          rw [i_two] at h2
          generalize hv V (bil B m (er V r) (er V r)) = h at *
          have e3 : h * bil B m (u a) (er V r) * y * (V.i Dr * (bil B m (er V r) (er V r) * V.i (Dt * Dr))) = (V.i Dr * y) * (h * bil B m (er V r) (er V r)) * (bil B m (u a) (er V r) * V.i (Dt * Dr)) := by grind
          rw [e3, hy, h2]
          grind)
      refine ⟨hsup, extP (2 * m) w o, _, ext_own hown wb hA, hm.congr fun x hx => ?_⟩
      show (if x < m then u a x else unit a (x - m)) + _ = (if x < m then mirF V B m (er V r) (u a) x else unit a (x - m))
      rw [rg x hx]
      split
      · have e4 := (hz x).1
        show _ + _ * V.i (z x) = u a x + hv V (bil B m (er V r) (er V r)) * bil B m (u a) (er V r) * er V r x
        rw [← e4]
        have e5 : hv V (bil B m (er V r) (er V r)) * bil B m (u a) (er V r) * y * (er V r x * V.i Dr) = (V.i Dr * y) * (hv V (bil B m (er V r) (er V r)) * bil B m (u a) (er V r) * er V r x) := by grind
        rw [e5, hy]
        grind
      · rw [V.i0]
        grind
    obtain ⟨P1, q1, q2⟩ := nxt
    refine ⟨P1, ?_, ?_⟩
    · rw [List.length_cons, show e + (rs.length + 1) = e + 1 + rs.length by omega]
      exact q1
    · rw [List.length_cons, show e + (rs.length + 1) = e + 1 + rs.length by omega]
      exact q2
/-- sizes of rows made of a keeper's rows and letters, by the mirrors that make it -/
theorem mirs_szr (hg0 : g = 0) {m n' A1 A0 ML B1 Mt Mr K : Nat} {Dt : Int} {B : List (Row F)} (hB : B.length = m) (hDt : Dt ≠ 0) (hBz : ∀ i, i < m → ∀ j, ZV V Dt Mt ((B.getD i zr) j)) (h1 : 1 ≤ A1) (hMr : Mr ≤ A1) (hA : 2 * (2 * m * (A1 * (m * (m * (1 * Mt) * Mr)))) ≤ A0) (hA0 : 1 ≤ A0)
    {rs : List (List (Int × Int))} (hrs : ∀ r ∈ rs, (∃ Dr : Int, Dr ≠ 0 ∧ RZ g Dr Mr m r) ∧ bil B m (er V r) (er V r) ≠ 0) {L : Nat → Nat → Int} (hL : ∀ x y, (L x y).natAbs ≤ ML) (hB1 : 2 * m * (A1 * ML) ≤ B1) (hB11 : 1 ≤ B1) {R : List (List (Int × Int))}
    (hR : ∀ r ∈ R, ∃ a, a < m ∧ ∀ y, y < n' → er V r y = SF (fun x => cat m (mirsF V B m (rs.map (er V)) (unit a)) (unit a) x * V.i (L x y)) (2 * m)) (hK : (n' + rs.length) ^ (n' + rs.length) * (B1 ^ n' * A0 ^ rs.length) < 2 ^ K) : SzR V n' K R := by
  obtain ⟨P1, hs, hrep⟩ := mirs_rep (Dm := 0) (b := 1) hg0 hB hDt hBz h1 hMr hA rs 0 [] (fun a => unit a) hrs (Sys.start _ _ _) fun a ha => by
    refine ⟨fun j hj => by unfold unit; rw [if_neg (by omega)], (List.range (2 * m)).map (fun x => if x < m then (if x = a then 1 else 0) else if x - m = a then 1 else 0), fun _ => 0, ⟨by rw [List.length_map, List.length_range, Nat.add_zero], fun x hx => ?_, fun x hx => ?_⟩, by decide, fun x hx => ?_, fun x hx1 hx2 => absurd hx2 (by omega)⟩
    · unfold gt
      rw [List.getD_eq_getElem?_getD, List.getElem?_map, List.getElem?_range hx]
      show (if x < m then (if x = a then 1 else 0) else if x - m = a then 1 else 0 : Int).natAbs ≤ A1
      split <;> split <;> first | exact h1 | exact Nat.zero_le _
    · rw [gt_out (by rw [List.length_map, List.length_range]; exact hx)]
      exact Nat.zero_le _
    · have e1 : gt ((List.range (2 * m)).map (fun x => if x < m then (if x = a then (1 : Int) else 0) else if x - m = a then 1 else 0)) x = if x < m then (if x = a then 1 else 0) else if x - m = a then 1 else 0 := by
        unfold gt
        rw [List.getD_eq_getElem?_getD, List.getElem?_map, List.getElem?_range hx]
        rfl
      rw [e1, V.i1]
      show 1 * (if x < m then unit a x else unit a (x - m)) = _ + (0 : F)
      unfold unit
      split <;> split <;> (first | rw [V.i1] | rw [V.i0]) <;> grind
  have hs2 := hs.mix (n' := n') hL hB1
  simp only [Nat.zero_add] at hs hrep hs2
  refine ⟨P1.map (mixP (2 * m) n' L), cE n' rs.length, Own n' rs.length B1 A0, 1, (n' + rs.length) ^ (n' + rs.length) * (B1 ^ n' * A0 ^ rs.length), by rw [hs2.le, cE_len], hs2.det, fun x hx => (cE_mem.mp hx).1, fun x hx hxc => ⟨fun i => ?_, fun o ho => gt_out ?_⟩, Nat.le_refl _, by rw [Nat.one_mul]; exact hK, ?_, fun r hr => ?_⟩
  · refine ent_mem (R := fun z => z = 0) rfl (fun p hp => gt_out ?_) i
    rw [hs2.len p hp]
    refine Nat.le_of_not_lt fun z => hxc (cE_mem.mpr ⟨hx, z⟩)
  · rw [ho.1]
    refine Nat.le_of_not_lt fun z => hxc (cE_mem.mpr ⟨hx, z⟩)
  · have hb : ∀ o, Own n' rs.length B1 A0 o → ∀ x, (gt o x).natAbs ≤ if x < n' then B1 else A0 := fun o ho x => by
      split
      · exact ho.2.1 x (by assumption)
      · exact ho.2.2 x (by omega)
    have := orc_col (P0 := P1.map (mixP (2 * m) n' L)) (c0 := cE n' rs.length) (n := n') (a := fun x => if x < n' then B1 else A0) (Ok := Own n' rs.length B1 A0) (by rw [hs2.le, cE_len]) (fun x => by split <;> assumption) (fun i x => ent_mem (R := fun z => z.natAbs ≤ if x < n' then B1 else A0) (Nat.zero_le _) (fun p hp => hb p (hs2.own p hp) x) i) hb
    refine this.mono ?_
    rw [cE_len]
    refine Nat.mul_le_mul_left _ (Nat.mul_le_mul ?_ ?_)
    · have := pA_le (a := fun x => if x < n' then B1 else A0) (A := B1) (List.range n') fun x hx => by rw [if_pos (List.mem_range.mp hx)]; exact Nat.le_refl _
      rw [List.length_range] at this
      exact this
    · have := pA_le (a := fun x => if x < n' then B1 else A0) (A := A0) (cE n' rs.length) fun x hx => by rw [if_neg (by have := (cE_mem.mp hx).1; omega)]; exact Nat.le_refl _
      rw [cE_len] at this
      exact this
  · obtain ⟨a, ha, hy⟩ := hR r hr
    obtain ⟨o, β, hown, hrp⟩ := hrep a ha
    have h2 := (hrp.mix (n' := n') (L := L) hs).congr fun y hyn => (hy y hyn).symm
    exact h2.rep hg0 hs2 (mix_own (n' := n') hown hL hB1) (by decide)
theorem SF_at (f : Nat → F) {i : Nat} : ∀ {n : Nat}, i < n → (∀ x, x < n → x ≠ i → f x = 0) → SF f n = f i := fun {n} hi h => by
  have e : SF f n = SF (fun k => unit i k * f k) n := SF_congr fun x hx => by
    unfold unit
    by_cases e : x = i
    · rw [if_pos e]
      grind
    · rw [if_neg e, h x hx e]
      grind
  rw [e, SF_unit hi]
theorem RepL.scale {n e : Nat} {P0 : List (List Int)} {o : List Int} {b D : Int} {β : Nat → F} {v : Row F} (hD : D ≠ 0) (h : RepL V n e P0 o b β (fun x => V.i D * v x)) : RepL V n e P0 o (b * D) β v :=
  ⟨Int.mul_ne_zero h.1 hD, fun x hx => by rw [← h.2.1 x hx, V.imul]; grind, h.2.2⟩
/-- put through a table over one bottom -/
theorem tab_rep (hg0 : g = 0) {m e A1 A0 B1 M : Nat} {D b : Int} {P0 : List (List Int)} {T : List (Row F)} (hT : T.length = m) (hD : D ≠ 0) (hTz : ∀ i, i < m → ∀ j, ZV V D M ((T.getD i zr) j)) (hDM : D.natAbs ≤ M) (hB : 2 * m * (A1 * M) ≤ B1) (hs : Sys (2 * m) e A1 A0 P0) :
    ∃ P1, Sys (2 * m) e B1 A0 P1 ∧ ∀ (u v : Row F) (o : List Int) (β : Nat → F), Own (2 * m) e A1 A0 o → RepL V (2 * m) e P0 o b β (cat m u v) → ∃ o' β', Own (2 * m) e B1 A0 o' ∧ RepL V (2 * m) e P1 o' (b * D) β' (cat m (thr T u) v) := by
  obtain ⟨z, hz⟩ := Classical.axiomOfChoice (fun i : Nat => Classical.axiomOfChoice (fun j : Nat => (by
    by_cases hi : i < m
    · obtain ⟨z, e1, e2⟩ := hTz i hi j
      exact ⟨z, fun _ => ⟨e1, e2⟩⟩
    · exact ⟨0, fun y => absurd y hi⟩ : ∃ z : Int, i < m → (T.getD i zr) j * V.i D = V.i z ∧ z.natAbs ≤ M)))
  let L : Nat → Nat → Int := fun x y => if x < m then (if y < m then z x y else 0) else if x = y then D else 0
  have hL : ∀ x y, (L x y).natAbs ≤ M := fun x y => by
    show (if x < m then (if y < m then z x y else 0) else if x = y then D else 0).natAbs ≤ M
    split
    · split
      · exact (hz x y (by assumption)).2
      · exact Nat.zero_le _
    · split
      · exact hDM
      · exact Nat.zero_le _
  refine ⟨P0.map (mixP (2 * m) (2 * m) L), hs.mix hL hB, fun u v o β ho hr => ⟨mixP (2 * m) (2 * m) L o, β, mix_own ho hL hB, RepL.scale hD ((hr.mix (n' := 2 * m) (L := L) hs).congr fun y hy => ?_)⟩⟩
  rw [show 2 * m = m + m by omega, SF_app]
  by_cases hym : y < m
  · rw [SF_nul (f := fun i => cat m u v (m + i) * V.i (L (m + i) y)) fun i hi => by
      show _ * V.i (if m + i < m then _ else if m + i = y then D else 0) = 0
      rw [if_neg (by omega), if_neg (by omega), V.i0]
      grind]
    have e1 : SF (fun x => cat m u v x * V.i (L x y)) m = V.i D * SF (fun i => u i * (T.getD i zr) y) m := by
      rw [← SF_mul]
      refine SF_congr fun x hx => ?_
      show (if x < m then u x else v (x - m)) * V.i (if x < m then (if y < m then z x y else 0) else _) = _
      rw [if_pos hx, if_pos hx, if_pos hym, ← (hz x y hx).1]
      grind
    rw [e1]
    show _ = V.i D * (if y < m then SF (fun i => u i * (T.getD i zr) y) T.length else _)
    rw [if_pos hym, hT]
    grind
  · rw [SF_nul (f := fun x => cat m u v x * V.i (L x y)) fun x hx => by
      show _ * V.i (if x < m then (if y < m then z x y else 0) else _) = 0
      rw [if_pos hx, if_neg hym, V.i0]
      grind, SF_at (i := y - m) _ (by omega) fun x hx hne => by
      show _ * V.i (if m + x < m then _ else if m + x = y then D else 0) = 0
      rw [if_neg (by omega), if_neg (by omega), V.i0]
      grind]
    show 0 + (if m + (y - m) < m then _ else v (m + (y - m) - m)) * V.i (if m + (y - m) < m then _ else if m + (y - m) = y then D else 0) = V.i D * (if y < m then _ else v (y - m))
    rw [if_neg (by omega), if_neg (by omega), if_pos (by omega), if_neg hym, show m + (y - m) - m = y - m by omega]
    grind
/-- letters less (ε = 1) or more (ε = -1) what they are led to, times; the letters beside -/
def Lk (m : Nat) (ε μ : Int) (x y : Nat) : Int := if y < m then (if x = y then -ε else if x = m + y then μ else 0) else if x = y then 1 else 0
theorem Lk_bd {m : Nat} {ε μ : Int} (h1 : ε.natAbs ≤ 1) (h2 : μ.natAbs ≤ 1) (x y : Nat) : (Lk m ε μ x y).natAbs ≤ 1 := by
  unfold Lk
  split
  · split
    · omega
    · split
      · exact h2
      · decide
  · split <;> decide
theorem Lk_lo {m : Nat} {ε μ : Int} {u v : Row F} {y : Nat} (hy : y < m) : SF (fun x => cat m u v x * V.i (Lk m ε μ x y)) (2 * m) = V.i μ * v y - V.i ε * u y := by
  rw [show 2 * m = m + m by omega, SF_app, SF_at (i := y) _ hy fun x hx hne => by
    unfold Lk
    rw [if_pos hy, if_neg hne, if_neg (by omega), V.i0]
    grind, SF_at (i := y) _ hy fun x hx hne => by
    unfold Lk
    rw [if_pos hy, if_neg (by omega), if_neg (by omega), V.i0]
    grind]
  unfold Lk cat
  simp only [if_pos hy, if_neg (show ¬ m + y < m by omega), if_neg (show ¬ m + y = y by omega), if_true, show m + y - m = y by omega]
  rw [V.ineg]
  grind
theorem Lk_hi {m : Nat} {ε μ : Int} {u v : Row F} {y : Nat} (hy : m ≤ y) (hy2 : y < 2 * m) : SF (fun x => cat m u v x * V.i (Lk m ε μ x y)) (2 * m) = v (y - m) := by
  rw [SF_at (i := y) _ hy2 fun x hx hne => by
    unfold Lk
    rw [if_neg (by omega), if_neg hne, V.i0]
    grind]
  unfold Lk cat
  rw [if_neg (by omega), if_neg (by omega), if_pos rfl, V.i1]
  grind
/-- rows of a table made by mirrors: letters times μ less the table's rows times ε, the letters beside -/
def KRow (W : GV g F) (m n' : Nat) (ε μ : Int) (T R : List (List (Int × Int))) : Prop := ∀ r ∈ R, ∃ a, a < m ∧ (∀ y, y < m → er W r y = W.i μ * unit a y - W.i ε * ((T.map (er W)).getD a zr) y) ∧ ∀ y, m ≤ y → y < n' → er W r y = unit a (y - m)
theorem kept_szr (hg0 : g = 0) {m n' s q K Mt Mr : Nat} {Dt : Int} {B : List (Row F)} (hB : B.length = m) (hm1 : 1 ≤ m) (hm : m ≤ 5) (hn' : n' ≤ 2 * m) (hDt : Dt ≠ 0) (hBz : ∀ i, i < m → ∀ j, ZV V Dt Mt ((B.getD i zr) j)) (hMt : Mt ≤ 2 ^ s) (hMr : Mr ≤ 2 ^ q)
    {rs : List (List (Int × Int))} (hrs : ∀ r ∈ rs, (∃ Dr : Int, Dr ≠ 0 ∧ RZ g Dr Mr m r) ∧ bil B m (er V r) (er V r) ≠ 0) {T : List (List (Int × Int))} (hT : ∀ i, i < m → (T.map (er V)).getD i zr = mirsF V B m (rs.map (er V)) (unit i)) {ε μ : Int} (h1 : ε.natAbs ≤ 1) (h2 : μ.natAbs ≤ 1) {R : List (List (Int × Int))} (hR : KRow V m n' ε μ T R)
    (hl : n' + rs.length ≤ 32) (hK : 5 * (n' + rs.length) + (q + 4) * n' + (2 * q + s + 9) * rs.length < K) : SzR V n' K R := by
  have e10 : 2 * m ≤ 2 ^ 4 := Nat.le_trans (Nat.mul_le_mul_left 2 hm) (by decide)
  have hm3 : m ≤ 2 ^ 3 := Nat.le_trans hm (by decide)
  have m25 : m * m ≤ 25 := Nat.mul_le_mul hm hm
  refine mirs_szr hg0 (A1 := 2 ^ q) (A0 := 2 ^ (2 * q + s + 9)) (ML := 1) (B1 := 2 ^ (q + 4)) hB hDt hBz Nat.one_le_two_pow hMr ?_ Nat.one_le_two_pow hrs (L := Lk m ε μ) (Lk_bd h1 h2) ?_ Nat.one_le_two_pow (fun r hr => ?_) ?_
  · have e1 : 2 * (2 * m * (2 ^ q * (m * (m * (1 * Mt) * Mr)))) = 4 * m * (m * m) * (2 ^ q * (Mt * Mr)) := by
      simp only [Nat.one_mul]
      have : 2 * (2 * m * (2 ^ q * (m * (m * Mt * Mr)))) = 2 * (2 * m * (m * m * (2 ^ q * (Mt * Mr)))) := by
        simp only [Nat.mul_left_comm, Nat.mul_comm, Nat.mul_assoc]
      rw [this]
      simp only [← Nat.mul_assoc]
    have e2 : 4 * m * (m * m) ≤ 2 ^ 9 := by
      have : 4 * m * (m * m) ≤ 20 * 25 := Nat.mul_le_mul (by omega) m25
      omega
    rw [e1, show 2 * q + s + 9 = 9 + (q + (s + q)) by omega]
    exact pw_mul e2 (pw_mul (Nat.le_refl _) (pw_mul hMt hMr))
  · rw [Nat.mul_one, Nat.mul_comm, show q + 4 = q + 4 from rfl]
    exact pw_mul (Nat.le_refl _) e10
  · obtain ⟨a, ha, y1, y2⟩ := hR r hr
    refine ⟨a, ha, fun y hy => ?_⟩
    by_cases hym : y < m
    · rw [Lk_lo hym, y1 y hym, hT a ha]
    · rw [Lk_hi (by omega) (by omega), y2 y (by omega) hy]
  · have e1 : (n' + rs.length) ^ (n' + rs.length) ≤ 2 ^ (5 * (n' + rs.length)) := by
      rw [Nat.pow_mul]
      exact Nat.pow_le_pow_left hl _
    have e2 : (2 ^ (q + 4)) ^ n' * (2 ^ (2 * q + s + 9)) ^ rs.length = 2 ^ ((q + 4) * n' + (2 * q + s + 9) * rs.length) := by
      rw [← Nat.pow_mul, ← Nat.pow_mul, ← Nat.pow_add]
    rw [e2]
    refine Nat.lt_of_le_of_lt (Nat.mul_le_mul_right _ e1) ?_
    rw [← Nat.pow_add]
    exact Nat.pow_lt_pow_right (by decide) (by omega)
/-- sizes where a table over one bottom stands between mirrors -/
theorem facs_szr (hg0 : g = 0) {m n' s q q2 K Mt Mr M A : Nat} {Dt D : Int} {B : List (Row F)} (hB : B.length = m) (hm1 : 1 ≤ m) (hm : m ≤ 5) (hn' : n' ≤ 2 * m) (hDt : Dt ≠ 0) (hBz : ∀ i, i < m → ∀ j, ZV V Dt Mt ((B.getD i zr) j)) (hMt : Mt ≤ 2 ^ s) (hMr : Mr ≤ 2 ^ q)
    {T0 : List (Row F)} (hT0 : T0.length = m) (hD : D ≠ 0) (hTz : ∀ i, i < m → ∀ j, ZV V D M ((T0.getD i zr) j)) (hDA : D.natAbs ≤ 2 ^ A) (hMA : M ≤ 2 ^ A) (hq2 : q + A + 4 ≤ q2)
    {rs rs2 : List (List (Int × Int))} (hrs : ∀ r ∈ rs, (∃ Dr : Int, Dr ≠ 0 ∧ RZ g Dr Mr m r) ∧ bil B m (er V r) (er V r) ≠ 0) (hrs2 : ∀ r ∈ rs2, (∃ Dr : Int, Dr ≠ 0 ∧ RZ g Dr Mr m r) ∧ bil B m (er V r) (er V r) ≠ 0) (hsup : ∀ u j, m ≤ j → thr T0 u j = 0)
    {T : List (List (Int × Int))} (hT : ∀ i, i < m → (T.map (er V)).getD i zr = mirsF V B m (rs2.map (er V)) (thr T0 (mirsF V B m (rs.map (er V)) (unit i)))) {ε μ : Int} (h1 : ε.natAbs ≤ 1) (h2 : μ.natAbs ≤ 1) {R : List (List (Int × Int))} (hR : KRow V m n' ε μ T R)
    (hl : n' + (rs.length + rs2.length) ≤ 32) (hK : A + (5 * (n' + (rs.length + rs2.length)) + (q2 + 4) * n' + (q2 + q + s + 9) * (rs.length + rs2.length)) < K) : SzR V n' K R := by
  have e10 : 2 * m ≤ 2 ^ 4 := Nat.le_trans (Nat.mul_le_mul_left 2 hm) (by decide)
  have hm3 : m ≤ 2 ^ 3 := Nat.le_trans hm (by decide)
  have m25 : m * m ≤ 25 := Nat.mul_le_mul hm hm
  have hA0 : ∀ {x : Nat}, x ≤ q2 → 2 * (2 * m * (2 ^ x * (m * (m * (1 * Mt) * Mr)))) ≤ 2 ^ (q2 + q + s + 9) := fun {x} hx => by
    have e1 : 2 * (2 * m * (2 ^ x * (m * (m * (1 * Mt) * Mr)))) = 4 * m * (m * m) * (2 ^ x * (Mt * Mr)) := by
      simp only [Nat.one_mul]
      have : 2 * (2 * m * (2 ^ x * (m * (m * Mt * Mr)))) = 2 * (2 * m * (m * m * (2 ^ x * (Mt * Mr)))) := by
        simp only [Nat.mul_left_comm, Nat.mul_comm, Nat.mul_assoc]
      rw [this]
      simp only [← Nat.mul_assoc]
    have e2 : 4 * m * (m * m) ≤ 2 ^ 9 := by
      have : 4 * m * (m * m) ≤ 20 * 25 := Nat.mul_le_mul (by omega) m25
      omega
    rw [e1]
    exact pw_le (pw_mul e2 (pw_mul (Nat.le_refl (2 ^ x)) (pw_mul hMt hMr))) (by omega)
  obtain ⟨P1, hs1, hrep1⟩ := mirs_rep (Dm := 0) (b := 1) (A1 := 2 ^ q) (A0 := 2 ^ (q2 + q + s + 9)) hg0 hB hDt hBz Nat.one_le_two_pow hMr (hA0 (by omega)) rs 0 [] (fun a => unit a) hrs (Sys.start _ _ _) fun a ha => by
    refine ⟨fun j hj => by unfold unit; rw [if_neg (by omega)], (List.range (2 * m)).map (fun x => if x < m then (if x = a then 1 else 0) else if x - m = a then 1 else 0), fun _ => 0, ⟨by rw [List.length_map, List.length_range, Nat.add_zero], fun x hx => ?_, fun x hx => ?_⟩, by decide, fun x hx => ?_, fun x hx1 hx2 => absurd hx2 (by omega)⟩
    · unfold gt
      rw [List.getD_eq_getElem?_getD, List.getElem?_map, List.getElem?_range hx]
      show (if x < m then (if x = a then 1 else 0) else if x - m = a then 1 else 0 : Int).natAbs ≤ 2 ^ q
      split <;> split <;> first | exact Nat.one_le_two_pow | exact Nat.zero_le _
    · rw [gt_out (by rw [List.length_map, List.length_range]; exact hx)]
      exact Nat.zero_le _
    · have e1 : gt ((List.range (2 * m)).map (fun x => if x < m then (if x = a then (1 : Int) else 0) else if x - m = a then 1 else 0)) x = if x < m then (if x = a then 1 else 0) else if x - m = a then 1 else 0 := by
        unfold gt
        rw [List.getD_eq_getElem?_getD, List.getElem?_map, List.getElem?_range hx]
        rfl
      rw [e1, V.i1]
      show 1 * (if x < m then unit a x else unit a (x - m)) = _ + (0 : F)
      unfold unit
      split <;> split <;> (first | rw [V.i1] | rw [V.i0]) <;> grind
  obtain ⟨P2, hs2, hrep2⟩ := tab_rep (b := 1) (B1 := 2 ^ q2) (M := 2 ^ A) hg0 hT0 hD (fun i hi j => (hTz i hi j).mono hMA) hDA (by
    exact pw_le (pw_mul e10 (pw_mul (Nat.le_refl (2 ^ q)) (Nat.le_refl (2 ^ A)))) (by omega)) hs1
  obtain ⟨P3, hs3, hrep3⟩ := mirs_rep (Dm := 0) (b := 1 * D) (A1 := 2 ^ q2) (A0 := 2 ^ (q2 + q + s + 9)) hg0 hB hDt hBz Nat.one_le_two_pow (Nat.le_trans hMr (Nat.pow_le_pow_right (by decide) (by omega))) (hA0 (Nat.le_refl _)) rs2 _ P2 (fun a => thr T0 (mirsF V B m (rs.map (er V)) (unit a))) hrs2 hs2 fun a ha => by
    obtain ⟨o, β, hown, hr⟩ := hrep1 a ha
    obtain ⟨o', β', hown', hr'⟩ := hrep2 _ _ o β hown hr
    exact ⟨hsup _, o', β', hown', hr'⟩
  have hL := Lk_bd (m := m) h1 h2
  have hB1 : 2 * m * (2 ^ q2 * 1) ≤ 2 ^ (q2 + 4) := by
    rw [Nat.mul_one, Nat.mul_comm]
    exact pw_mul (Nat.le_refl _) e10
  simp only [Nat.zero_add] at hs3 hrep3
  have hs4 := hs3.mix (n' := n') hL hB1
  generalize hk : rs.length + rs2.length = k at *
  refine ⟨P3.map (mixP (2 * m) n' (Lk m ε μ)), cE n' k, Own n' k (2 ^ (q2 + 4)) (2 ^ (q2 + q + s + 9)), 2 ^ A, (n' + k) ^ (n' + k) * ((2 ^ (q2 + 4)) ^ n' * (2 ^ (q2 + q + s + 9)) ^ k), by rw [hs4.le, cE_len], hs4.det, fun x hx => (cE_mem.mp hx).1, fun x hx hxc => ⟨fun i => ?_, fun o ho => gt_out ?_⟩, Nat.one_le_two_pow, ?_, ?_, fun r hr => ?_⟩
  · refine ent_mem (R := fun z => z = 0) rfl (fun p hp => gt_out ?_) i
    rw [hs4.len p hp]
    refine Nat.le_of_not_lt fun z => hxc (cE_mem.mpr ⟨hx, z⟩)
  · rw [ho.1]
    refine Nat.le_of_not_lt fun z => hxc (cE_mem.mpr ⟨hx, z⟩)
  · have e1 : (n' + k) ^ (n' + k) ≤ 2 ^ (5 * (n' + k)) := by
      rw [Nat.pow_mul]
      exact Nat.pow_le_pow_left hl _
    have e2 : (2 ^ (q2 + 4)) ^ n' * (2 ^ (q2 + q + s + 9)) ^ k = 2 ^ ((q2 + 4) * n' + (q2 + q + s + 9) * k) := by
      rw [← Nat.pow_mul, ← Nat.pow_mul, ← Nat.pow_add]
    rw [e2]
    refine Nat.lt_of_le_of_lt (Nat.mul_le_mul_left (2 ^ A) (Nat.mul_le_mul_right _ e1)) ?_
    rw [← Nat.pow_add, ← Nat.pow_add]
    exact Nat.pow_lt_pow_right (by decide) (by omega)
  · have hb : ∀ o, Own n' k (2 ^ (q2 + 4)) (2 ^ (q2 + q + s + 9)) o → ∀ x, (gt o x).natAbs ≤ if x < n' then 2 ^ (q2 + 4) else 2 ^ (q2 + q + s + 9) := fun o ho x => by
      split
      · exact ho.2.1 x (by assumption)
      · exact ho.2.2 x (by omega)
    have := orc_col (P0 := P3.map (mixP (2 * m) n' (Lk m ε μ))) (c0 := cE n' k) (n := n') (a := fun x => if x < n' then 2 ^ (q2 + 4) else 2 ^ (q2 + q + s + 9)) (Ok := Own n' k (2 ^ (q2 + 4)) (2 ^ (q2 + q + s + 9))) (by rw [hs4.le, cE_len]) (fun x => by split <;> exact Nat.one_le_two_pow) (fun i x => ent_mem (R := fun z => z.natAbs ≤ if x < n' then 2 ^ (q2 + 4) else 2 ^ (q2 + q + s + 9)) (Nat.zero_le _) (fun p hp => hb p (hs4.own p hp) x) i) hb
    refine this.mono ?_
    rw [cE_len]
    refine Nat.mul_le_mul_left _ (Nat.mul_le_mul ?_ ?_)
    · have := pA_le (a := fun x => if x < n' then 2 ^ (q2 + 4) else 2 ^ (q2 + q + s + 9)) (A := 2 ^ (q2 + 4)) (List.range n') fun x hx => by rw [if_pos (List.mem_range.mp hx)]; exact Nat.le_refl _
      rw [List.length_range] at this
      exact this
    · have := pA_le (a := fun x => if x < n' then 2 ^ (q2 + 4) else 2 ^ (q2 + q + s + 9)) (A := 2 ^ (q2 + q + s + 9)) (cE n' k) fun x hx => by rw [if_neg (by have := (cE_mem.mp hx).1; omega)]; exact Nat.le_refl _
      rw [cE_len] at this
      exact this
  · obtain ⟨a, ha, y1, y2⟩ := hR r hr
    obtain ⟨o, β, hown, hrp⟩ := hrep3 a ha
    have h5 := (hrp.mix (n' := n') (L := Lk m ε μ) hs3).congr (v := er V r) fun y hyn => by
      by_cases hym : y < m
      · rw [Lk_lo hym, y1 y hym, hT a ha]
      · rw [Lk_hi (by omega) (by omega), y2 y (by omega) hyn]
    exact h5.rep hg0 hs4 (mix_own (n' := n') hown hL hB1) (by rw [Int.one_mul]; exact hDA)
end
end Fm

namespace Fm
open Lean.Grind PySem PySem.Spec PyProof.Rows L2 Fd Fr
section
variable {g : Int} {F : Type} [CommRing F] {W : GV g F}
/-- sizes of what is made of a table's rows and letters -/
def SzK (W : GV g F) (m n' K : Nat) (T : List (List (Int × Int))) : Prop := ∀ (ε μ : Int), ε.natAbs ≤ 1 → μ.natAbs ≤ 1 → ∀ R, KRow W m n' ε μ T R → SzR W n' K R
theorem SzK.mono {m n' K L : Nat} {T : List (List (Int × Int))} (h : SzK W m n' K T) (e : K ≤ L) : SzK W m n' L T := fun ε μ h1 h2 R hR => (h ε μ h1 h2 R hR).mono e
/-- a keeper's table: what it keeps, and its sizes -/
structure KepT (W : GV g F) (t : List (List (Int × Int))) (m : Nat) (T : List (List (Int × Int))) (A K1 K2 : Nat) : Prop where
  len : T.length = m
  row : ∃ (D : Int) (M : Nat), D ≠ 0 ∧ D.natAbs ≤ 2 ^ A ∧ M ≤ 2 ^ A ∧ ∀ r ∈ T, RZ g D M m r
  kp : Keeps W (t.map (er W)) m T
  s1 : g = 0 → SzK W m m K1 T
  s2 : g = 0 → SzK W m (2 * m) K2 T
theorem KepT.mono {t T : List (List (Int × Int))} {m A K1 K2 A' K1' K2' : Nat} (h : KepT W t m T A K1 K2) (hA : A ≤ A') (h1 : K1 ≤ K1') (h2 : K2 ≤ K2') : KepT W t m T A' K1' K2' := by
  obtain ⟨D, M, a1, a2, a3, a4⟩ := h.row
  exact ⟨h.len, ⟨D, M, a1, Nat.le_trans a2 (Nat.pow_le_pow_right (by decide) hA), Nat.le_trans a3 (Nat.pow_le_pow_right (by decide) hA), a4⟩, h.kp, fun z => (h.s1 z).mono h1, fun z => (h.s2 z).mono h2⟩
/-- a table over one bottom: sizes by its numbers -/
theorem vals_szk (hg : g = 0 ∨ Gr5 g) (hg0 : g = 0) {m n' K A : Nat} {D : Int} {M : Nat} {T : List (List (Int × Int))} (zT : ∀ a y, a < m → ZV W D M (((T.map (er W)).getD a zr) y)) (hD : D ≠ 0) (bD : D.natAbs ≤ 2 ^ A) (bM : M ≤ 2 ^ A) (hn : n' ≤ 2 * m) (hm : m ≤ 5) (hK : A + (4 * n' + (A + 1) * n') < K) : SzK W m n' K T := fun ε μ h1 h2 R hR => by
  have h10 : n' ≤ 2 ^ 4 := by omega
  have zu : ∀ a y, ZV W D D.natAbs (unit a y : F) := fun a y => by
    have := (zv_unit (W := W) a y).wide D
    rw [Int.one_mul, Nat.one_mul] at this
    exact this
  have mulε : ∀ {c : Int} {N : Nat} {x : F}, c.natAbs ≤ 1 → ZV W D N x → ZV W D N (W.i c * x) := fun {c N x} hc ⟨z, e1, e2⟩ => ⟨c * z, by rw [W.imul, ← e1]; grind, by rw [Int.natAbs_mul]; exact Nat.le_trans (Nat.mul_le_mul hc e2) (by rw [Nat.one_mul]; exact Nat.le_refl _)⟩
  have val : ∀ r ∈ R, ∀ x, x < n' → ZV W D (2 ^ (A + 1)) (er W r x) := fun r hr x hx => by
    obtain ⟨a, ha, y1, y2⟩ := hR r hr
    have hb : D.natAbs + M ≤ 2 ^ (A + 1) := pw_add bD bM
    by_cases hxm : x < m
    · rw [y1 x hxm]
      exact ((mulε h2 (zu a x)).sub (mulε h1 (zT a x ha))).mono hb
    · rw [y2 x (by omega) hx]
      exact (zu a (x - m)).mono (by omega)
  refine ⟨[], [], fun o => (∀ x, (gt o x).natAbs ≤ 2 ^ (A + 1)) ∧ ∀ x, n' ≤ x → gt o x = 0, D.natAbs, n' ^ n' * (2 ^ (A + 1)) ^ n', rfl, by show (1 : Int) ≠ 0; decide, fun x hx => (by cases hx), fun x hx _ => ⟨fun i => by simp [ent], fun o ho => ho.2 x hx⟩, by omega, ?_, ?_, fun v hv => ?_⟩
  · have e1 : n' ^ n' ≤ 2 ^ (4 * n') := by rw [Nat.pow_mul]; exact Nat.pow_le_pow_left h10 _
    have e2 : (2 ^ (A + 1)) ^ n' = 2 ^ ((A + 1) * n') := (Nat.pow_mul ..).symm
    rw [e2]
    exact Nat.lt_of_le_of_lt (pw_mul bD (pw_mul e1 (Nat.le_refl _))) (Nat.pow_lt_pow_right (by decide) hK)
  · have := orc_col (P0 := []) (c0 := []) (n := n') (a := fun _ => 2 ^ (A + 1)) (Ok := fun o => (∀ x, (gt o x).natAbs ≤ 2 ^ (A + 1)) ∧ ∀ x, n' ≤ x → gt o x = 0) rfl (fun _ => Nat.one_le_two_pow) (fun i x => by simp [ent]) fun o ho => ho.1
    refine this.mono ?_
    show (n' + 0) ^ (n' + 0) * (pA _ (List.range n') * 1) ≤ _
    rw [Nat.add_zero, Nat.mul_one]
    have := pA_le (a := fun _ : Nat => 2 ^ (A + 1)) (A := 2 ^ (A + 1)) (List.range n') fun x _ => Nat.le_refl _
    rw [List.length_range] at this
    exact Nat.mul_le_mul_left _ this
  · obtain ⟨z, hz⟩ := Classical.axiomOfChoice (fun x : Nat => (by
      by_cases hx : x < n'
      · obtain ⟨z, e1, e2⟩ := val v hv x hx
        exact ⟨z, fun _ => ⟨e1, e2⟩⟩
      · exact ⟨0, fun y => absurd y hx⟩ : ∃ z : Int, x < n' → er W v x * W.i D = W.i z ∧ z.natAbs ≤ 2 ^ (A + 1)))
    have gz : ∀ x, x < n' → gt ((List.range n').map z) x = z x := fun x hx => by
      unfold gt
      rw [List.getD_eq_getElem?_getD, List.getElem?_map, List.getElem?_range hx]
      rfl
    refine ⟨(List.range n').map z, D, hD, Nat.le_refl _, ⟨fun x => ?_, fun x hx => gt_out (by rw [List.length_map, List.length_range]; exact hx)⟩, fun x hx => ?_⟩
    · by_cases hx : x < n'
      · rw [gz x hx]
        exact (hz x hx).2
      · rw [gt_out (by rw [List.length_map, List.length_range]; omega)]
        exact Nat.zero_le _
    · have e1 : dt [(List.range n').map z] [x] = gt ((List.range n').map z) x := by
        show 0 + sg 0 * gt ((List.range n').map z) x * 1 = _
        show 0 + 1 * gt ((List.range n').map z) x * 1 = _
        omega
      rw [e1, gz x hx, ← (hz x hx).1]
      show er W v x * W.i (D * 1) = _
      rw [Int.mul_one]
theorem rows_szk (hg : g = 0 ∨ Gr5 g) (hg0 : g = 0) {m n' K A : Nat} {D : Int} {M : Nat} {T : List (List (Int × Int))} (hTl : T.length = m) (hT : ∀ r ∈ T, RZ g D M m r) (hD : D ≠ 0) (bD : D.natAbs ≤ 2 ^ A) (bM : M ≤ 2 ^ A) (hn : n' ≤ 2 * m) (hm : m ≤ 5) (hK : A + (4 * n' + (A + 1) * n') < K) : SzK W m n' K T :=
  vals_szk hg hg0 (fun a y _ => by
    cases e : T[a]? with
    | none =>
      have : (T.map (er W)).getD a zr = zr := by rw [List.getD_eq_getElem?_getD, List.getElem?_map, e]; rfl
      rw [this]
      exact ZV.zero _ _
    | some r =>
      rw [getD_map e]
      exact (hT r (List.mem_of_getElem? e)).zv hg0 y) hD bD bM hn hm hK
theorem KepT.rows (hg : g = 0 ∨ Gr5 g) {t T : List (List (Int × Int))} {m A K1 K2 : Nat} {D : Int} {M : Nat} (hTl : T.length = m) (hT : ∀ r ∈ T, RZ g D M m r) (hD : D ≠ 0) (bD : D.natAbs ≤ 2 ^ A) (bM : M ≤ 2 ^ A) (hm : m ≤ 5) (hk : Keeps W (t.map (er W)) m T) (h1 : A + (4 * m + (A + 1) * m) < K1) (h2 : A + (4 * (2 * m) + (A + 1) * (2 * m)) < K2) : KepT W t m T A K1 K2 :=
  ⟨hTl, ⟨D, M, hD, bD, bM, hT⟩, hk, fun z => rows_szk hg z hTl hT hD bD bM (by omega) hm h1, fun z => rows_szk hg z hTl hT hD bD bM (Nat.le_refl _) hm h2⟩
/-- a table made by mirrors -/
theorem KepT.mirs (hg : g = 0 ∨ Gr5 g) {t T rs : List (List (Int × Int))} {m A K1 K2 s q Mt Mr : Nat} {Dt D : Int} {M : Nat} (ht : FrmT W Dt Mt m t) (hm1 : 1 ≤ m) (hm : m ≤ 5) (hDt : Dt ≠ 0) (hMt : Mt ≤ 2 ^ s) (hMr : Mr ≤ 2 ^ q) (hrs : ∀ r ∈ rs, (∃ Dr : Int, Dr ≠ 0 ∧ RZ g Dr Mr m r) ∧ bil (t.map (er W)) m (er W r) (er W r) ≠ 0)
    (hTl : T.length = m) (hT : ∀ r ∈ T, RZ g D M m r) (hD : D ≠ 0) (bD : D.natAbs ≤ 2 ^ A) (bM : M ≤ 2 ^ A) (hTe : ∀ i, i < m → (T.map (er W)).getD i zr = mirsF W (t.map (er W)) m (rs.map (er W)) (unit i)) (hl : rs.length ≤ 22)
    (h1 : 5 * (m + rs.length) + (q + 4) * m + (2 * q + s + 9) * rs.length < K1) (h2 : 5 * (2 * m + rs.length) + (q + 4) * (2 * m) + (2 * q + s + 9) * rs.length < K2) : KepT W t m T A K1 K2 := by
  have hB : (t.map (er W)).length = m := by rw [List.length_map, ht.len]
  have hkp : Keeps W (t.map (er W)) m T := fun i j hi hj => by
    rw [hTe i hi, hTe j hj, mirs_keeps W hB ht.sym _ (fun r hr => by
      obtain ⟨q, hq, rfl⟩ := List.mem_map.mp hr
      exact (hrs q hq).2), bil_unit hB hi hj]
  have hBz : g = 0 → ∀ i, i < m → ∀ j, ZV W Dt Mt (((t.map (er W)).getD i zr) j) := fun z i hi j => by
    have gi : t[i]? = some (t[i]'(by rw [ht.len]; exact hi)) := List.getElem?_eq_getElem _
    rw [getD_map gi]
    exact (ht.row _ (List.mem_of_getElem? gi)).zv z j
  exact ⟨hTl, ⟨D, M, hD, bD, bM, hT⟩, hkp, fun z ε μ e1 e2 R hR => kept_szr z hB hm1 hm (by omega) hDt (hBz z) hMt hMr hrs hTe e1 e2 hR (by omega) h1, fun z ε μ e1 e2 R hR => kept_szr z hB hm1 hm (Nat.le_refl _) hDt (hBz z) hMt hMr hrs hTe e1 e2 hR (by omega) h2⟩
end
end Fm

namespace Fm
open PySem PySem.Spec PyProof.Rows L2 Fd Fr
section
variable {g : Int} {F : Type} [Lean.Grind.CommRing F] {W : GV g F}
theorem thr_supn {A : List (Row F)} {n : Nat} (hA : A.length = n) (sA : ∀ i, i < n → ∀ x, n ≤ x → (A.getD i zr) x = 0) (u : Row F) : ∀ x, n ≤ x → thr A u x = 0 := fun x hx => by
  show SF _ _ = 0
  rw [hA]
  exact SF_nul fun k hk => by rw [sA k hk x hx]; grind
theorem er_getD_sup {T : List (List (Int × Int))} {m : Nat} (hT : ∀ r ∈ T, r.length = m) : ∀ i, i < m → ∀ x, m ≤ x → ((T.map (er W)).getD i zr) x = 0 := fun i _ x hx => by
  cases e : T[i]? with
  | none =>
    have : (T.map (er W)).getD i zr = zr := by rw [List.getD_eq_getElem?_getD, List.getElem?_map, e]; rfl
    rw [this]
    rfl
  | some r =>
    rw [getD_map e]
    exact er_sup (hT r (List.mem_of_getElem? e)) x hx
/-- a keeper's table: made by mirrors, or of small numbers with a back of such -/
structure KOr (W : GV g F) (t : List (List (Int × Int))) (m : Nat) (T : List (List (Int × Int))) : Prop where
  len : T.length = m
  row : ∃ (D : Int) (M : Nat), D ≠ 0 ∧ D.natAbs ≤ 2 ^ 760 ∧ M ≤ 2 ^ 760 ∧ ∀ r ∈ T, RZ g D M m r
  kp : Keeps W (t.map (er W)) m T
  or : (∃ rs : List (List (Int × Int)), rs.length ≤ 6 ∧ (∀ r ∈ rs, RZ g 2520 161280 m r ∧ bil (t.map (er W)) m (er W r) (er W r) ≠ 0) ∧ ∀ i, i < m → (T.map (er W)).getD i zr = mirsF W (t.map (er W)) m (rs.map (er W)) (unit i)) ∨
    ∃ (D : Int) (M : Nat) (Tv : Nat → Row F), D ≠ 0 ∧ D.natAbs ≤ 2 ^ 94 ∧ M ≤ 2 ^ 94 ∧ (∀ r ∈ T, RZ g D M m r) ∧ (g = 0 → ∀ i j, ZV W D M (Tv i j)) ∧ (∀ i j, m ≤ j → Tv i j = 0) ∧ ∀ i, i < m → ∀ x, x < m → thr (T.map (er W)) (Tv i) x = unit i x
theorem KOr.kept (hg : g = 0 ∨ Gr5 g) {t T : List (List (Int × Int))} {m : Nat} (ht : FrmT W 2520 16128000000000 m t) (hm1 : 1 ≤ m) (hm : m ≤ 5) (h : KOr W t m T) : KepT W t m T 760 800 1100 := by
  rcases h.or with ⟨rs, hl, hrs, he⟩ | ⟨D, M, Tv, hD, bD, bM, hT, _, _, _⟩
  · obtain ⟨D, M, hD, bD, bM, hT⟩ := h.row
    refine KepT.mirs (s := 44) (q := 18) hg ht hm1 hm (by decide) (by decide) (show 161280 ≤ 2 ^ 18 by decide) (fun r hr' => ⟨⟨2520, by decide, (hrs r hr').1⟩, (hrs r hr').2⟩) h.len hT hD bD bM he (by omega) ?_ ?_
    · have := Nat.mul_le_mul_left 22 hm
      omega
    · have := Nat.mul_le_mul_left 44 hm
      omega
  · refine (KepT.rows (A := 94) hg h.len hT hD bD bM hm h.kp ?_ ?_ : KepT W t m T 94 800 1100).mono (by decide) (Nat.le_refl _) (Nat.le_refl _)
    · have := Nat.mul_le_mul_left 95 hm
      omega
    · have := Nat.mul_le_mul_left 190 hm
      omega
/-- mirrors behind, and ahead -/
theorem KOr.more (hg : g = 0 ∨ Gr5 g) {t T R : List (List (Int × Int))} {rs1 rs2 : List (List (Int × Int))} {m A : Nat} {D0 : Int} {M0 : Nat} (ht : FrmT W 2520 16128000000000 m t) (hm1 : 1 ≤ m) (hm : m ≤ 5) (h : KOr W t m T) (h1 : rs1.length + rs2.length ≤ 2) (hr1 : ∀ r ∈ rs1, RZ g 2520 161280 m r ∧ bil (t.map (er W)) m (er W r) (er W r) ≠ 0) (hr2 : ∀ r ∈ rs2, RZ g 2520 161280 m r ∧ bil (t.map (er W)) m (er W r) (er W r) ≠ 0)
    (hRl : R.length = m) (hD0 : D0 ≠ 0) (bD0 : D0.natAbs ≤ 2 ^ A) (bM0 : M0 ≤ 2 ^ A) (hR : ∀ r ∈ R, RZ g D0 M0 m r) (hRe : ∀ i, i < m → (R.map (er W)).getD i zr = mirsF W (t.map (er W)) m (rs2.map (er W)) (thr (T.map (er W)) (mirsF W (t.map (er W)) m (rs1.map (er W)) (unit i)))) : KepT W t m R A 1150 3000 := by
  have hB : (t.map (er W)).length = m := by rw [List.length_map, ht.len]
  obtain ⟨_, _, _, _, _, hTr⟩ := h.row
  have hTl : (T.map (er W)).length = m := by rw [List.length_map, h.len]
  have sT := er_getD_sup (W := W) fun r hr => (hTr r hr).1
  have ne : ∀ {l : List (List (Int × Int))}, (∀ r ∈ l, RZ g 2520 161280 m r ∧ bil (t.map (er W)) m (er W r) (er W r) ≠ 0) → ∀ r ∈ l.map (er W), bil (t.map (er W)) m r r ≠ 0 := fun hl r hr => by
    obtain ⟨q, hq, rfl⟩ := List.mem_map.mp hr
    exact (hl q hq).2
  have okm : ∀ {l : List (List (Int × Int))}, (∀ r ∈ l, RZ g 2520 161280 m r ∧ bil (t.map (er W)) m (er W r) (er W r) ≠ 0) → ∀ r ∈ l, (∃ Dr : Int, Dr ≠ 0 ∧ RZ g Dr 161280 m r) ∧ bil (t.map (er W)) m (er W r) (er W r) ≠ 0 := fun hl r hr => ⟨⟨2520, by decide, (hl r hr).1⟩, (hl r hr).2⟩
  have hkp : Keeps W (t.map (er W)) m R := fun i j hi hj => by
    rw [hRe i hi, hRe j hj, mirs_keeps W hB ht.sym _ (ne hr2), keeps_all hB hTl h.kp, mirs_keeps W hB ht.sym _ (ne hr1), bil_unit hB hi hj]
  have sup : ∀ {l : List (List (Int × Int))}, (∀ r ∈ l, RZ g 2520 161280 m r ∧ bil (t.map (er W)) m (er W r) (er W r) ≠ 0) → ∀ u : Row F, (∀ x, m ≤ x → u x = 0) → ∀ x, m ≤ x → mirsF W (t.map (er W)) m (l.map (er W)) u x = 0 := fun {l} => by
    induction l with
    | nil => exact fun _ u hu => hu
    | cons r l ih =>
      intro hl u hu
      refine ih (fun q hq => hl q (List.mem_cons_of_mem _ hq)) _ fun x hx => ?_
      show u x + _ * er W r x = 0
      rw [hu x hx, er_sup (hl r List.mem_cons_self).1.1 x hx]
      grind
  rcases h.or with ⟨rs, hl, hrs, he⟩ | ⟨D, M, Tv, hD, bD, bM, hT, _, _, _⟩
  · have eR : ∀ i, i < m → (R.map (er W)).getD i zr = mirsF W (t.map (er W)) m ((rs1 ++ rs ++ rs2).map (er W)) (unit i) := fun i hi => by
      rw [hRe i hi, thr_lin hTl (mirs_lin W _ _ _) he (sup hr1 _ (unit_sup hi)), List.map_append, List.map_append, mirs_app, mirs_app]
    have hlen : (rs1 ++ rs ++ rs2).length ≤ 8 := by
      rw [List.length_append, List.length_append]
      omega
    refine KepT.mirs (s := 44) (q := 18) (rs := rs1 ++ rs ++ rs2) hg ht hm1 hm (by decide) (by decide) (show 161280 ≤ 2 ^ 18 by decide) (fun r hr' => ?_) hRl hR hD0 bD0 bM0 eR (by omega) ?_ ?_
    · rcases List.mem_append.mp hr' with q | q
      · rcases List.mem_append.mp q with q | q
        · exact okm hr1 r q
        · exact okm hrs r q
      · exact okm hr2 r q
    · have := Nat.mul_le_mul_left 22 hm
      omega
    · have := Nat.mul_le_mul_left 44 hm
      omega
  · have hBz : g = 0 → ∀ i, i < m → ∀ j, ZV W 2520 16128000000000 (((t.map (er W)).getD i zr) j) := fun z i hi j => by
      have gi : t[i]? = some (t[i]'(by rw [ht.len]; exact hi)) := List.getElem?_eq_getElem _
      rw [getD_map gi]
      exact (ht.row _ (List.mem_of_getElem? gi)).zv z j
    have hTz : g = 0 → ∀ i, i < m → ∀ j, ZV W D M (((T.map (er W)).getD i zr) j) := fun z i hi j => by
      have gi : T[i]? = some (T[i]'(by rw [h.len]; exact hi)) := List.getElem?_eq_getElem _
      rw [getD_map gi]
      exact (hT _ (List.mem_of_getElem? gi)).zv z j
    have main : ∀ n' K, n' ≤ 2 * m → 94 + (5 * (n' + (rs1.length + rs2.length)) + 120 * n' + 187 * (rs1.length + rs2.length)) < K → g = 0 → SzK W m n' K R := fun n' K hn hK z ε μ e1 e2 Q hQ =>
      facs_szr z (s := 44) (q := 18) (q2 := 116) (A := 94) hB hm1 hm hn (by decide) (hBz z) (by decide) (show 161280 ≤ 2 ^ 18 by decide) hTl hD (hTz z) bD bM (by decide) (okm hr1) (okm hr2) (fun u j hj => thr_supn hTl sT u j hj) hRe e1 e2 hQ (by omega) (by omega)
    refine ⟨hRl, ⟨D0, M0, hD0, bD0, bM0, hR⟩, hkp, main m 1150 (by omega) ?_, main (2 * m) 3000 (Nat.le_refl _) ?_⟩
    · have := Nat.mul_le_mul_left 125 hm
      omega
    · have := Nat.mul_le_mul_left 250 hm
      omega
end
end Fm

namespace Fm
open PySem PySem.Spec PyProof.Rows L2 Fd Fr
/-- flat pairs, of four letters or with a fifth -/
structure FlB {g : Int} {F : Type} [Lean.Grind.CommRing F] (W : GV g F) (m : Nat) (t T : List (List (Int × Int))) (Tv : Nat → Row F) : Prop where
  frm : FrmT W 2520 161280 m t
  len : T.length = m
  row : ∀ r ∈ T, RZ g 6350400 26011238400 m r
  kp : Keeps W (t.map (er W)) m T
  tz : g = 0 → ∀ i j, ZV W 6350400 26011238400 (Tv i j)
  sup : ∀ i j, m ≤ j → Tv i j = 0
  inv : ∀ i, i < m → ∀ x, x < m → thr (T.map (er W)) (Tv i) x = unit i x
section
variable {g : Int} {F : Type} [Lean.Grind.CommRing F] {W : GV g F}
theorem er_app0 {r : List (Int × Int)} : er W (r ++ [(0, 1)]) = er W r := funext fun j => by
  show W.e ((r ++ [(0, 1)]).getD j (0, 1)) = W.e (r.getD j (0, 1))
  rw [List.getD_eq_getElem?_getD, List.getD_eq_getElem?_getD]
  by_cases h : j < r.length
  · rw [List.getElem?_append_left h]
  · rw [List.getElem?_append_right (by omega), List.getElem?_eq_none (show r.length ≤ j by omega)]
    cases e : j - r.length with
    | zero => rfl
    | succ n => rfl
/-- a fifth letter beside -/
theorem FlB.ext (hg : g = 0 ∨ Gr5 g) {d : List (Int × Int)} {T : List (List (Int × Int))} {Tv : Nat → Row F} {c s : Int × Int} (hd : d.length = 4) (h : FlB W 4 (diagF d) T Tv) (ht : FrmT W 2520 161280 5 (diagF (d ++ [c]))) (hs : s = (1, 1) ∨ s = (-1, 1)) (hg0 : g = 0) : FlB W 5 (diagF (d ++ [c])) ((T.map fun r => r ++ [(0, 1)]) ++ [[(0, 1), (0, 1), (0, 1), (0, 1), s]]) (fun i => if i < 4 then Tv i else fun j => W.e s * unit 4 j) := by
  have hd5 : (d ++ [c]).length = 5 := by rw [List.length_append, hd]; rfl
  have hTl := h.len
  have es : W.e s * W.e s = 1 := by
    rcases hs with rfl | rfl
    · rw [W.one]; grind
    · have := W.minus hg ((tn_one hg).mono (by decide) : TN g 4 (1, 1))
      rw [W.one] at this
      subst hg0
      have e2 : minusF 0 (1, 1) = (-1, 1) := by decide
      rw [e2] at this
      rw [this]
      grind
  have hl5 : ((T.map fun r => r ++ [(0, 1)]) ++ [[(0, 1), (0, 1), (0, 1), (0, 1), s]]).length = 5 := by rw [List.length_append, List.length_map, hTl]; rfl
  have row4 : ∀ i, i < 4 → ((((T.map fun r => r ++ [(0, 1)]) ++ [[(0, 1), (0, 1), (0, 1), (0, 1), s]]).map (er W)).getD i zr) = (T.map (er W)).getD i zr := fun i hi => by
    have gi : T[i]? = some (T[i]'(by omega)) := List.getElem?_eq_getElem _
    have g5 : ((T.map fun r => r ++ [(0, 1)]) ++ [[(0, 1), (0, 1), (0, 1), (0, 1), s]])[i]? = some ((T[i]'(by omega)) ++ [(0, 1)]) := by
      rw [List.getElem?_append_left (by rw [List.length_map]; omega), List.getElem?_map, gi]
      rfl
    rw [getD_map g5, getD_map gi, er_app0]
  have e4 : er W [(0, 1), (0, 1), (0, 1), (0, 1), s] = fun j => W.e s * unit 4 j := funext fun j => by
    have z0 := W.zero
    match j with
    | 0 => show W.e (0, 1) = _; rw [z0]; unfold unit; rw [if_neg (by decide)]; grind
    | 1 => show W.e (0, 1) = _; rw [z0]; unfold unit; rw [if_neg (by decide)]; grind
    | 2 => show W.e (0, 1) = _; rw [z0]; unfold unit; rw [if_neg (by decide)]; grind
    | 3 => show W.e (0, 1) = _; rw [z0]; unfold unit; rw [if_neg (by decide)]; grind
    | 4 => show W.e s = _; unfold unit; rw [if_pos rfl]; grind
    | n + 5 => show W.e (0, 1) = _; rw [z0]; unfold unit; rw [if_neg (by omega)]; grind
  have row5 : ((((T.map fun r => r ++ [(0, 1)]) ++ [[(0, 1), (0, 1), (0, 1), (0, 1), s]]).map (er W)).getD 4 zr) = fun j => W.e s * unit 4 j := by
    have g5 : ((T.map fun r => r ++ [(0, 1)]) ++ [[(0, 1), (0, 1), (0, 1), (0, 1), s]])[4]? = some [(0, 1), (0, 1), (0, 1), (0, 1), s] := by
      rw [List.getElem?_append_right (by rw [List.length_map]; omega), List.length_map, hTl]
      rfl
    rw [getD_map g5, e4]
  have sT := er_getD_sup (W := W) (m := 4) fun r hr => (h.row r hr).1
  have dg : ∀ (d : List (Int × Int)) (m i : Nat), d.length = m → i < m → ∀ j, (((diagF d).map (er W)).getD i zr) j = W.e (d.getD i (0, 1)) * unit i j := fun d m i hd hi j => by
    rw [diag_map W hd, List.getD_eq_getElem?_getD, List.getElem?_map, List.getElem?_range hi]
    rfl
  have thr5 : ∀ (u : Row F) j, thr (((T.map fun r => r ++ [(0, 1)]) ++ [[(0, 1), (0, 1), (0, 1), (0, 1), s]]).map (er W)) u j = thr (T.map (er W)) u j + u 4 * (W.e s * unit 4 j) := fun u j => by
    show SF (fun i => u i * ((((T.map fun r => r ++ [(0, 1)]) ++ [[(0, 1), (0, 1), (0, 1), (0, 1), s]]).map (er W)).getD i zr) j) _ = SF (fun i => u i * ((T.map (er W)).getD i zr) j) _ + _
    rw [List.length_map, hl5, List.length_map, hTl]
    show SF _ 4 + u 4 * _ = _
    rw [row5]
    congr 1
    exact SF_congr fun i hi => by rw [row4 i hi]
  refine ⟨ht, hl5, fun r hr => ?_, fun i j hi hj => ?_, fun z i j => ?_, fun i j hj => ?_, fun i hi j hj => ?_⟩
  · have z1 : TZ g 6350400 26011238400 (1, 1) := by
      have := (TZ.one hg).wide 6350400
      rw [Int.one_mul] at this
      exact this.mono (by decide)
    have z0 : TZ g 6350400 26011238400 (0, 1) := TZ.zero hg _ _
    have zs : TZ g 6350400 26011238400 s := by
      rcases hs with rfl | rfl
      · exact z1
      · have := z1.minus hg
        subst hg0
        have e2 : minusF 0 (1, 1) = (-1, 1) := by decide
        rw [e2] at this
        exact this
    rcases List.mem_append.mp hr with q | q
    · obtain ⟨r0, hr0, rfl⟩ := List.mem_map.mp q
      have := h.row r0 hr0
      refine ⟨by rw [List.length_append, this.1]; rfl, fun a ha => ?_⟩
      rcases List.mem_append.mp ha with q | q
      · exact this.2 a q
      · rw [List.mem_singleton.mp q]
        exact z0
    · rw [List.mem_singleton.mp q]
      refine ⟨rfl, fun a ha => ?_⟩
      simp only [List.mem_cons, List.not_mem_nil, or_false] at ha
      rcases ha with rfl | rfl | rfl | rfl | rfl <;> assumption
  · rw [bil_diag W hd5, dg _ 5 i hd5 hi]
    have cg : ∀ i, i < 4 → (d ++ [c]).getD i (0, 1) = d.getD i (0, 1) := fun i hi => by
      rw [List.getD_eq_getElem?_getD, List.getD_eq_getElem?_getD, List.getElem?_append_left (by omega)]
    have s4 : ∀ (u v : Row F), SF (fun i => W.e ((d ++ [c]).getD i (0, 1)) * u i * v i) 5 = bil ((diagF d).map (er W)) 4 u v + W.e ((d ++ [c]).getD 4 (0, 1)) * u 4 * v 4 := fun u v => by
      rw [bil_diag W hd]
      show SF _ 4 + _ = _
      congr 1
      exact SF_congr fun i hi => by rw [cg i hi]
    rw [s4]
    by_cases hi4 : i < 4
    · rw [row4 i hi4, sT i hi4 4 (Nat.le_refl _)]
      by_cases hj4 : j < 4
      · rw [row4 j hj4, h.kp i j hi4 hj4, dg d 4 i hd hi4, cg i hi4]
        grind
      · have : j = 4 := by omega
        subst this
        rw [row5]
        have z : bil ((diagF d).map (er W)) 4 ((T.map (er W)).getD i zr) (fun j => W.e s * unit 4 j) = 0 := by
          rw [bil_diag W hd]
          refine SF_nul fun k hk => ?_
          show W.e (d.getD k (0, 1)) * _ * (W.e s * unit 4 k) = 0
          unfold unit
          rw [if_neg (by omega)]
          grind
        rw [z]
        unfold unit
        rw [if_neg (show ¬ (4 = i) by omega)]
        grind
    · have : i = 4 := by omega
      subst this
      rw [row5]
      by_cases hj4 : j < 4
      · rw [row4 j hj4, sT j hj4 4 (Nat.le_refl _)]
        have z : bil ((diagF d).map (er W)) 4 (fun j => W.e s * unit 4 j) ((T.map (er W)).getD j zr) = 0 := by
          rw [bil_diag W hd]
          refine SF_nul fun k hk => ?_
          show W.e (d.getD k (0, 1)) * (W.e s * unit 4 k) * _ = 0
          unfold unit
          rw [if_neg (by omega)]
          grind
        rw [z]
        unfold unit
        rw [if_neg (show ¬ (j = 4) by omega)]
        grind
      · have : j = 4 := by omega
        subst this
        rw [row5]
        have z : bil ((diagF d).map (er W)) 4 (fun j => W.e s * unit 4 j) (fun j => W.e s * unit 4 j) = 0 := by
          rw [bil_diag W hd]
          refine SF_nul fun k hk => ?_
          show W.e (d.getD k (0, 1)) * (W.e s * unit 4 k) * _ = 0
          unfold unit
          rw [if_neg (by omega)]
          grind
        rw [z]
        unfold unit
        simp only [if_true]
        grind
  · show ZV W _ _ ((if i < 4 then Tv i else fun j => W.e s * unit 4 j) j)
    split
    · exact h.tz z i j
    · have h1 : ZV W 1 1 (W.e s) := by
        rcases hs with rfl | rfl
        · rw [W.one]; exact ZV.one
        · have := W.minus hg ((tn_one hg).mono (by decide) : TN g 4 (1, 1))
          rw [W.one] at this
          subst z
          have e2 : minusF 0 (1, 1) = (-1, 1) := by decide
          rw [e2] at this
          rw [this]
          exact ⟨-1, by rw [W.i1, W.ineg, W.i1]; grind, by decide⟩
      have := (h1.mul (zv_unit (W := W) 4 j)).wide 6350400
      exact this.mono (by decide)
  · show (if i < 4 then Tv i else fun j => W.e s * unit 4 j) j = 0
    split
    · exact h.sup i j (by omega)
    · show W.e s * unit 4 j = 0
      unfold unit
      rw [if_neg (by omega)]
      grind
  · rw [thr5]
    show thr (T.map (er W)) (if i < 4 then Tv i else fun j => W.e s * unit 4 j) j + (if i < 4 then Tv i else fun j => W.e s * unit 4 j) 4 * (W.e s * unit 4 j) = unit i j
    by_cases hi4 : i < 4
    · rw [if_pos hi4, h.sup i 4 (Nat.le_refl _)]
      by_cases hj4 : j < 4
      · rw [h.inv i hi4 j hj4]
        grind
      · rw [thr_supn (by rw [List.length_map, hTl]) sT _ j (by omega)]
        unfold unit
        rw [if_neg (show ¬ j = i by omega)]
        grind
    · have : i = 4 := by omega
      subst this
      rw [if_neg (by decide)]
      have z : thr (T.map (er W)) (fun j => W.e s * unit 4 j) j = 0 := by
        show SF _ _ = 0
        rw [List.length_map, hTl]
        refine SF_nul fun k hk => ?_
        show W.e s * unit 4 k * _ = 0
        unfold unit
        rw [if_neg (by omega)]
        grind
      rw [z]
      show 0 + W.e s * unit 4 4 * (W.e s * unit 4 j) = unit 4 j
      have : (unit 4 4 : F) = 1 := by unfold unit; rw [if_pos rfl]
      rw [this]
      grind
end
end Fm

namespace Fm
open PySem PySem.Spec PyProof.Rows L2 Fd Fr
section
variable {g : Int} {F : Type} [Lean.Grind.CommRing F] {W : GV g F}
/-- four other letters -/
def quadF (g : Int) : List (List (Int × Int)) := [[(1, 1), (0, 1), (1, 1), (0, 1)], [(0, 1), (1, 1), (0, 1), (1, 1)], [(1, 1), (0, 1), minusF g (1, 1), (0, 1)], [(0, 1), (1, 1), (0, 1), minusF g (1, 1)]]
end
end Fm

namespace Fm
open PySem PySem.Spec PyProof.Rows L2 Fd Fr
section
variable {g : Int} {F : Type} [Lean.Grind.CommRing F] {W : GV g F}
/-- what is counted -/
abbrev Cnt (W : GV g F) (t : List (List (Int × Int))) (m : Nat) (T : List (List (Int × Int))) : Prop := KepT W t m T 1110 1500 3000
def agF (g : Int) (m : Nat) : List (List (Int × Int)) := (onesF m).map fun r => r.map fun a => timesF g a (minusF g (1, 1))
end
end Fm

namespace Fm
open Lean.Grind PySem PySem.Spec PyProof.Rows L2 Fd Fr
section
variable {g : Int} {F : Type} [CommRing F] {W : GV g F}
end
end Fm

namespace Fm
open Lean.Grind PySem PySem.Spec PyProof.Rows L2 Fd Fr
section
variable {F : Type} [CommRing F]
/-- multiples of a row added to others change no determinant -/
theorem dC_op {cs : List Nat} {A B C : List (Row F)} {r u : Row F} {c : F} (hl : A.length + B.length + C.length + 2 = cs.length) : dC (A ++ (fun x => r x + c * u x) :: (B ++ u :: C)) cs = dC (A ++ r :: (B ++ u :: C)) cs := by
  have a := dC_alt cs (F := F)
  have hl2 : A.length + (B ++ u :: C).length + 1 = cs.length := by rw [List.length_append, List.length_cons]; omega
  have e := a.add A r (fun x => c * u x) (B ++ u :: C) hl2
  have e2 := a.mul A c u (B ++ u :: C) hl2
  have e3 : dC (A ++ u :: (B ++ u :: C)) cs = 0 := det_span hl2 (InS.mem (by simp))
  rw [e, e2, e3]
  grind
theorem dC_op2 {cs : List Nat} {A B C : List (Row F)} {r u : Row F} {c : F} (hl : A.length + B.length + C.length + 2 = cs.length) : dC (A ++ u :: (B ++ (fun x => r x + c * u x) :: C)) cs = dC (A ++ u :: (B ++ r :: C)) cs := by
  have a := dC_alt cs (F := F)
  have hl2 : (A ++ u :: B).length + C.length + 1 = cs.length := by rw [List.length_append, List.length_cons]; omega
  have e := a.add (A ++ u :: B) r (fun x => c * u x) C hl2
  have e2 := a.mul (A ++ u :: B) c u C hl2
  have e3 : dC (A ++ u :: (B ++ u :: C)) cs = 0 := det_span (by rw [List.length_append, List.length_cons]; omega) (InS.mem (by simp))
  have as : ∀ v : Row F, (A ++ u :: B) ++ v :: C = A ++ u :: (B ++ v :: C) := fun v => by rw [List.append_assoc]; rfl
  simp only [as] at e e2
  rw [e, e2, e3]
  grind
theorem dC_pre {cs : List Nat} {C : List (Row F)} {u : Row F} (φ : Row F → F) : ∀ (todo done : List (Row F)), done.length + todo.length + C.length + 1 = cs.length → dC (done ++ (todo.map (fun r x => r x + φ r * u x) ++ u :: C)) cs = dC (done ++ (todo ++ u :: C)) cs
  | [], done, _ => rfl
  | r :: todo, done, hl => by
    rw [List.length_cons] at hl
    have ih := dC_pre (cs := cs) (C := C) (u := u) φ todo (done ++ [fun x => r x + φ r * u x]) (by rw [List.length_append, List.length_singleton]; omega)
    rw [List.append_assoc, List.append_assoc] at ih
    rw [List.map_cons]
    exact ih.trans (dC_op (c := φ r) (by first | omega | (rw [List.length_map]; omega)))
theorem dC_post {cs : List Nat} {A : List (Row F)} {u : Row F} (φ : Row F → F) : ∀ (todo done : List (Row F)), A.length + done.length + todo.length + 1 = cs.length → dC (A ++ u :: (done ++ todo.map (fun r x => r x + φ r * u x))) cs = dC (A ++ u :: (done ++ todo)) cs
  | [], done, _ => rfl
  | r :: todo, done, hl => by
    rw [List.length_cons] at hl
    have ih := dC_post (cs := cs) (A := A) (u := u) φ todo (done ++ [fun x => r x + φ r * u x]) (by rw [List.length_append, List.length_singleton]; omega)
    rw [List.append_assoc, List.append_assoc] at ih
    rw [List.map_cons]
    exact ih.trans (dC_op2 (A := A) (B := done) (C := todo) (c := φ r) (by omega))
theorem SF_nought {f : Nat → F} : ∀ (n : Nat), (∀ i, i < n → f i = 0) → SF f n = 0
  | 0, _ => rfl
  | n + 1, h => by
    show SF f n + f n = 0
    rw [SF_nought n fun i hi => h i (by omega), h n (by omega)]
    grind
theorem dC_elim {cs : List Nat} {pre post : List (Row F)} {u : Row F} {c : Nat} {φ : Row F → F} (hl : pre.length + post.length = cs.length) (hφ : ∀ r ∈ pre ++ post, r c + φ r * u c = 0) : dC (pre ++ u :: post) (c :: cs) = sF pre.length * u c * dC ((pre ++ post).map (fun r x => r x + φ r * u x)) cs := by
  have e1 := dC_pre (cs := c :: cs) (C := post) (u := u) φ pre [] (by rw [List.length_nil, List.length_cons]; omega)
  have e2 := dC_post (cs := c :: cs) (A := pre.map (fun r x => r x + φ r * u x)) (u := u) φ post [] (by rw [List.length_map, List.length_nil, List.length_cons]; omega)
  rw [List.nil_append, List.nil_append] at e1 e2
  rw [← e1, ← e2, dC_at]
  have z : ∀ (L : List (Row F)), (∀ r ∈ L, r c + φ r * u c = 0) → ∀ i, ((L.map (fun r x => r x + φ r * u x)).getD i zr) c = 0 := fun L hL i => by
    rw [List.getD_eq_getElem?_getD, List.getElem?_map]
    cases e : L[i]? with
    | none => rfl
    | some r => exact hL r (List.mem_of_getElem? e)
  have z1 := z pre fun r hr => hφ r (List.mem_append_left _ hr)
  have z2 := z post fun r hr => hφ r (List.mem_append_right _ hr)
  have n1 : ∀ (G : Nat → F), SF (fun i => sF i * ((pre.map (fun r x => r x + φ r * u x)).getD i zr) c * G i) (pre.map (fun r x => r x + φ r * u x)).length = 0 := fun G => SF_nought _ fun i _ => by rw [z1 i]; grind
  have n2 : ∀ (S G : Nat → F), SF (fun i => S i * ((post.map (fun r x => r x + φ r * u x)).getD i zr) c * G i) (post.map (fun r x => r x + φ r * u x)).length = 0 := fun S G => SF_nought _ fun i _ => by rw [z2 i]; grind
  rw [n1, n2, List.length_map, List.map_append]
  grind
theorem erase_map {α β : Type} (f : α → β) : ∀ (L : List α) (i : Nat), (L.map f).eraseIdx i = (L.eraseIdx i).map f
  | [], _ => rfl
  | _ :: _, 0 => rfl
  | x :: L, i + 1 => by
    show f x :: (L.map f).eraseIdx i = f x :: (L.eraseIdx i).map f
    rw [erase_map f L i]
theorem dC_shift : ∀ (cs : List Nat) (rows : List (Row F)), dC (rows.map (fun r x => r (x + 1))) cs = dC rows (cs.map (· + 1))
  | [], rows => by cases rows <;> rfl
  | c :: cs, rows => by
    show SF (fun i => sF i * ((rows.map (fun r x => r (x + 1))).getD i zr) c * dC ((rows.map (fun r x => r (x + 1))).eraseIdx i) cs) (rows.map (fun r x => r (x + 1))).length = SF (fun i => sF i * (rows.getD i zr) (c + 1) * dC (rows.eraseIdx i) (cs.map (· + 1))) rows.length
    rw [List.length_map]
    refine SF_congr fun i _ => ?_
    have e1 : ((rows.map (fun r x => r (x + 1))).getD i zr) c = (rows.getD i zr) (c + 1) := by
      rw [List.getD_eq_getElem?_getD, List.getD_eq_getElem?_getD, List.getElem?_map]
      cases rows[i]? <;> rfl
    have e2 : (rows.map (fun r x => r (x + 1))).eraseIdx i = (rows.eraseIdx i).map (fun r x => r (x + 1)) := by
      rw [erase_map]
    rw [e1, e2, dC_shift cs]
theorem range_front (n : Nat) : List.range (n + 1) = 0 :: (List.range n).map (· + 1) := by
  rw [List.range_succ_eq_map]
end
section
variable {g : Int} {F : Type} [CommRing F] {W : GV g F}
def padF (j : Nat) (r : List (Int × Int)) : List (Int × Int) := List.replicate j (0, 1) ++ r
theorem pad_er (j : Nat) (r : List (Int × Int)) (x : Nat) : er W (padF j r) x = if x < j then 0 else er W r (x - j) := by
  unfold padF er
  by_cases h : x < j
  · rw [if_pos h, List.getD_eq_getElem?_getD, List.getElem?_append_left (by rw [List.length_replicate]; exact h), List.getElem?_replicate, if_pos h]
    exact W.zero
  · rw [if_neg h, List.getD_eq_getElem?_getD, List.getElem?_append_right (by rw [List.length_replicate]; omega), List.length_replicate, ← List.getD_eq_getElem?_getD]
theorem LSy.rows {P0 : List (List Int)} {c0 : List Nat} {n Ab : Nat} {Ok : List Int → Prop} {O : List (List Int)} {cs : List Nat} {found left left' : List (List (Int × Int))} (z : LSy W P0 c0 n Ok Ab O cs found left) (h : ∀ v ∈ left', ∃ u ∈ left, er W v = er W u) : LSy W P0 c0 n Ok Ab O cs [] left' :=
  ⟨z.lc, z.det, z.okO, z.nd, z.cn, fun v hv => (by cases hv), fun v hv => by
    obtain ⟨u, hu, e⟩ := h v hv
    obtain ⟨o, b, h1, h2, h3, h4⟩ := z.lft u hu
    exact ⟨o, b, h1, h2, h3, fun x hx => by rw [e]; exact h4 x hx⟩⟩
/-- a table cleared column by column for its determinant: what is left, and the product of the heads -/
structure DetS (W : GV g F) (n k j : Nat) (T : List (List (Int × Int))) (f : Int × Int) (ls : List (List (Int × Int))) : Prop where
  ln : ls.length + j = n
  row : ∀ r ∈ ls, r.length + j = n ∧ ∀ a ∈ r, TN g k a
  fnd : TN g (4 + j * k) f
  det : dC (T.map (er W)) (List.range n) = W.e f * dC (ls.map (er W)) (List.range (n - j))
  sz : g = 0 → ∃ (P0 : List (List Int)) (c0 : List Nat) (Ok : List Int → Prop) (Ab N : Nat) (O : List (List Int)) (cs : List Nat), (∀ x ∈ cs, x < j) ∧ LSo P0 c0 n Ok Ab N ∧ Ab * N < 2 ^ k ∧ LSy W P0 c0 n Ok Ab O cs [] (ls.map (padF j))
theorem DetS.start (hg : g = 0 ∨ Gr5 g) {n k : Nat} {T : List (List (Int × Int))} (hl : T.length = n) (hr : ∀ r ∈ T, r.length = n ∧ ∀ a ∈ r, TN g k a) (hz : g = 0 → SzR W n k T) : DetS W n k 0 T (1, 1) T := by
  refine ⟨hl, fun r h => hr r h, (tn_one hg).mono (by omega), by rw [W.one, Nat.sub_zero]; grind, fun e => ?_⟩
  obtain ⟨P0, c0, Ok, Ab, N, h1, h2, h3, h4, h5, h6, h7, h8⟩ := hz e
  refine ⟨P0, c0, Ok, Ab, N, [], [], fun x hx => (by cases hx), ⟨h1, h5, h7⟩, h6, ?_⟩
  refine (LSy.start h2 h8).rows fun v hv => ?_
  obtain ⟨r, h, rfl⟩ := List.mem_map.mp hv
  exact ⟨r, h, rfl⟩
theorem DetS.flat {n k j : Nat} {T : List (List (Int × Int))} {f : Int × Int} {ls : List (List (Int × Int))} (s : DetS W n k j T f ls) (hj : j < n) (h : ∀ r ∈ ls, er W r 0 = 0) : dC (T.map (er W)) (List.range n) = 0 := by
  obtain ⟨q, hq⟩ : ∃ q, n - j = q + 1 := ⟨n - j - 1, by omega⟩
  have z : ∀ G : Nat → F, SF (fun i => sF i * ((ls.map (er W)).getD i zr) 0 * G i) (ls.map (er W)).length = 0 := fun G => SF_nought _ fun i _ => by
    have : ((ls.map (er W)).getD i zr) 0 = 0 := by
      rw [List.getD_eq_getElem?_getD, List.getElem?_map]
      cases e : ls[i]? with
      | none => rfl
      | some r => exact h r (List.mem_of_getElem? e)
    rw [this]
    grind
  rw [s.det, hq, range_front]
  show W.e f * SF (fun i => sF i * ((ls.map (er W)).getD i zr) 0 * dC ((ls.map (er W)).eraseIdx i) ((List.range q).map (· + 1))) (ls.map (er W)).length = 0
  rw [z]
  grind
/-- a row less so many times the head, its first number left out -/
def dnF (g : Int) (h r : List (Int × Int)) (x : Int × Int) : List (Int × Int) := (List.zipWith (plusF g) r (h.map fun a => timesF g a x)).drop 1
theorem DetS.step (hg : g = 0 ∨ Gr5 g) {n k j : Nat} {T : List (List (Int × Int))} {f : Int × Int} {ls : List (List (Int × Int))} (s : DetS W n k j T f ls) (hk : 4 ≤ k) {i0 : Nat} {h : List (Int × Int)} {h0 : Int × Int} (hi : ls[i0]? = some h) (hh : h[0]? = some h0) (hne : h0 ≠ (0, 1)) {part : Int × Int} (hp : W.e part * W.e h0 = 1) {φ : List (Int × Int) → Int × Int} {kp : Nat} (hkp : 4 ≤ kp) (hφ : ∀ r ∈ ls, TN g kp (φ r) ∧ ∀ r0, r[0]? = some r0 → W.e (φ r) = -(W.e r0) * W.e part) :
    DetS W n k (j + 1) T (timesF g f (if i0 % 2 = 0 then h0 else minusF g h0)) ((ls.eraseIdx i0).map fun r => dnF g h r (φ r)) := by
  have hmem := List.mem_of_getElem? hi
  have hil := (List.getElem?_eq_some_iff.mp hi).1
  obtain ⟨hhl, hht⟩ := s.row h hmem
  have h0l := (List.getElem?_eq_some_iff.mp hh).1
  have hjn : j < n := by omega
  have ln := s.ln
  have th0 := hht h0 (List.mem_of_getElem? hh)
  have e0 : W.e h0 ≠ 0 := fun z => hne (W.inj hg th0 ((tn_zero hg).mono hk) (by rw [z, W.zero]))
  have tm0 : TN g k (minusF g h0) := tn_minus hg th0 hk
  have er0 : ∀ {r : List (Int × Int)} {r0 : Int × Int}, r[0]? = some r0 → er W r 0 = W.e r0 := fun {r r0} e => by
    show W.e (r.getD 0 (0, 1)) = _
    rw [List.getD_eq_getElem?_getD, e]
    rfl
  have first : ∀ r ∈ ls, ∃ r0, r[0]? = some r0 := fun r hr => ⟨_, List.getElem?_eq_getElem (by have := (s.row r hr).1; omega)⟩
  -- what a new row is worth
  have dn : ∀ r ∈ ls, (dnF g h r (φ r)).length + (j + 1) = n ∧ (∀ a ∈ dnF g h r (φ r), TN g (k + (k + kp) + 1) a) ∧ er W (dnF g h r (φ r)) = fun x => er W r (x + 1) + W.e (φ r) * er W h (x + 1) := fun r hr => by
    obtain ⟨hrl, hrt⟩ := s.row r hr
    have tφ := (hφ r hr).1
    have hl2 : (List.zipWith (plusF g) r (h.map fun a => timesF g a (φ r))).length = r.length := by rw [List.length_zipWith, List.length_map]; omega
    have at' : ∀ (x : Nat) (hx : x < r.length), (List.zipWith (plusF g) r (h.map fun a => timesF g a (φ r)))[x]? = some (plusF g (r[x]) (timesF g (h[x]'(by omega)) (φ r))) := fun x hx => by
      rw [List.getElem?_zipWith, List.getElem?_map, List.getElem?_eq_getElem hx, List.getElem?_eq_getElem (show x < h.length by omega)]
      rfl
    refine ⟨by unfold dnF; rw [List.length_drop, hl2]; omega, fun a ha => ?_, funext fun x => ?_⟩
    · obtain ⟨x, hx⟩ := List.getElem?_of_mem (List.mem_of_mem_drop ha)
      have hxl := (List.getElem?_eq_some_iff.mp hx).1
      rw [hl2] at hxl
      rw [at' x hxl] at hx
      cases Option.some.inj hx
      exact tn_plus hg (hrt _ (List.getElem_mem _)) (tn_times hg (hht _ (List.getElem_mem _)) tφ hk) hk
    · show W.e ((dnF g h r (φ r)).getD x (0, 1)) = W.e (r.getD (x + 1) (0, 1)) + W.e (φ r) * W.e (h.getD (x + 1) (0, 1))
      unfold dnF
      rw [List.getD_eq_getElem?_getD, List.getElem?_drop, List.getD_eq_getElem?_getD, List.getD_eq_getElem?_getD, Nat.add_comm 1 x]
      by_cases hx : x + 1 < r.length
      · rw [at' _ hx, List.getElem?_eq_getElem hx, List.getElem?_eq_getElem (show x + 1 < h.length by omega)]
        show W.e (plusF g _ _) = W.e _ + _ * W.e _
        rw [W.plus hg (hrt _ (List.getElem_mem _)) (tn_times hg (hht _ (List.getElem_mem _)) tφ hk), W.times hg (hht _ (List.getElem_mem _)) tφ]
        grind
      · rw [List.getElem?_eq_none (by rw [hl2]; omega), List.getElem?_eq_none (show r.length ≤ x + 1 by omega), List.getElem?_eq_none (show h.length ≤ x + 1 by omega)]
        show W.e (0, 1) = W.e (0, 1) + _ * W.e (0, 1)
        rw [W.zero]
        grind
  have mem' : ∀ {r : List (Int × Int)}, r ∈ ls.eraseIdx i0 → r ∈ ls := fun hr => List.mem_of_mem_eraseIdx hr
  -- the step of the oracle
  have z' : g = 0 → ∃ (P0 : List (List Int)) (c0 : List Nat) (Ok : List Int → Prop) (Ab N : Nat) (O : List (List Int)) (cs : List Nat), (∀ x ∈ cs, x < j + 1) ∧ LSo P0 c0 n Ok Ab N ∧ Ab * N < 2 ^ k ∧ LSy W P0 c0 n Ok Ab O cs [] (((ls.eraseIdx i0).map fun r => dnF g h r (φ r)).map (padF (j + 1))) := fun e => by
    obtain ⟨P0, c0, Ok, Ab, N, O, cs, hcj, lo, hN, zz⟩ := s.sz e
    have pl : ∀ r ∈ ls, (padF j r).length = n ∧ ∀ a ∈ padF j r, TN g k a := fun r hr => by
      obtain ⟨a1, a2⟩ := s.row r hr
      unfold padF
      refine ⟨by rw [List.length_append, List.length_replicate]; omega, fun a ha => ?_⟩
      rcases List.mem_append.mp ha with q | q
      · rw [List.eq_of_mem_replicate q]; exact (tn_zero hg).mono hk
      · exact a2 a q
    have ph := pl h hmem
    have hga : ga (padF j h) j = h0 := by
      have : er W (padF j h) j = W.e h0 := by rw [pad_er, if_neg (Nat.lt_irrefl _), Nat.sub_self, er0 hh]
      have hjl : j < (padF j h).length := by rw [ph.1]; exact hjn
      rw [ga_at hjl]
      refine W.inj hg (ph.2 _ (List.getElem_mem hjl)) th0 ?_
      rw [← this, er_at hjl]
    obtain ⟨hn0, hhH, hHl, htH⟩ := lhead_er (V := W) hg ph hjn hk (by rw [hga]; exact hne)
    generalize hH : lheadF g j (padF j h) = H at *
    obtain ⟨O', z2⟩ := zz.step e lo.l0 hjn (fun y => Nat.lt_irrefl _ (hcj j y)) (v0 := padF j h) (List.mem_map.mpr ⟨h, hmem, rfl⟩) hn0 hhH (f := lclrF g j H) fun r hr => by
      rw [List.nil_append] at hr
      obtain ⟨u, hu, rfl⟩ := List.mem_map.mp hr
      exact (lclr_er hg (pl u hu) ⟨hHl, htH⟩ hjn hk (by omega)).1
    refine ⟨P0, c0, Ok, Ab, N, O', j :: cs, fun x hx => ?_, lo, hN, z2.rows fun v hv => ?_⟩
    · rcases List.mem_cons.mp hx with rfl | hx
      · exact Nat.lt_succ_self _
      · exact Nat.lt_succ_of_lt (hcj x hx)
    · obtain ⟨v1, hv1, rfl⟩ := List.mem_map.mp hv
      obtain ⟨r, hr, rfl⟩ := List.mem_map.mp hv1
      have hrl := mem' hr
      refine ⟨lclrF g j H (padF j r), List.mem_map.mpr ⟨_, List.mem_map.mpr ⟨r, hrl, rfl⟩, rfl⟩, ?_⟩
      rw [(lclr_er hg (pl r hrl) ⟨hHl, htH⟩ hjn hk (by omega)).1]
      obtain ⟨r0, hr0⟩ := first r hrl
      have eφ := (hφ r hrl).2 r0 hr0
      have rj : er W (padF j r) j = W.e r0 := by rw [pad_er, if_neg (Nat.lt_irrefl _), Nat.sub_self, er0 hr0]
      have hj0 : er W (padF j h) j = W.e h0 := by rw [pad_er, if_neg (Nat.lt_irrefl _), Nat.sub_self, er0 hh]
      funext x
      show _ = er W (padF j r) x + -(er W (padF j r) j) * er W H x
      have eH := hhH x
      rw [hj0] at eH
      rw [rj, pad_er (j + 1)]
      by_cases c1 : x < j
      · rw [if_pos (by omega), pad_er, if_pos c1]
        rw [pad_er, if_pos c1] at eH
        have : er W H x = 0 := W.dom (by rw [← eH]; grind) e0
        rw [this]
        grind
      · by_cases c2 : x = j
        · subst c2
          rw [if_pos (by omega), rj]
          rw [hj0] at eH
          have : er W H x = 1 := by
            have : W.e h0 * (er W H x - 1) = 0 := by grind
            have := W.dom this e0
            grind
          rw [this]
          grind
        · rw [if_neg (by omega), (dn r hrl).2.2, pad_er, if_neg c1]
          rw [pad_er, if_neg c1] at eH
          have ex : x - (j + 1) + 1 = x - j := by omega
          show er W r (x - (j + 1) + 1) + W.e (φ r) * er W h (x - (j + 1) + 1) = _
          rw [ex, eφ, ← eH]
          have : W.e part * (er W H x * W.e h0) = er W H x := by
            have : W.e part * (er W H x * W.e h0) = er W H x * (W.e part * W.e h0) := by grind
            rw [this, hp]
            grind
          grind
  refine ⟨by rw [List.length_map, List.length_eraseIdx_of_lt hil]; omega, fun r hr => ?_, ?_, ?_, z'⟩
  · obtain ⟨u, hu, rfl⟩ := List.mem_map.mp hr
    obtain ⟨a1, a2, _⟩ := dn u (mem' hu)
    refine ⟨a1, fun a ha => tn_small hg (a2 a ha) hk fun e => ?_⟩
    obtain ⟨P0, c0, Ok, Ab, N, O, cs, hcj, lo, hN, zz⟩ := z' e
    have hpl : (padF (j + 1) (dnF g h u (φ u))).length = n := by unfold padF; rw [List.length_append, List.length_replicate]; omega
    have := zz.bound hg e lo hpl (by rw [List.nil_append]; exact List.mem_map.mpr ⟨_, hr, rfl⟩) (k := k + (k + kp) + 1) (fun b hb => by
      unfold padF at hb
      rcases List.mem_append.mp hb with q | q
      · rw [List.eq_of_mem_replicate q]; exact (tn_zero hg).mono (by omega)
      · exact a2 b q) a (by unfold padF; exact List.mem_append_right _ ha)
    omega
  · have := tn_times hg s.fnd (show TN g k (if i0 % 2 = 0 then h0 else minusF g h0) by split <;> assumption) (by omega)
    refine this.mono ?_
    rw [Nat.succ_mul]
    omega
  · have tf := s.fnd
    have ts : TN g k (if i0 % 2 = 0 then h0 else minusF g h0) := by split <;> assumption
    have es : W.e (if i0 % 2 = 0 then h0 else minusF g h0) = sF i0 * W.e h0 := by
      unfold sF
      split
      · grind
      · rw [W.minus hg th0]
        grind
    obtain ⟨q, hq⟩ : ∃ q, n - j = q + 1 := ⟨n - j - 1, by omega⟩
    have hls : ls = ls.take i0 ++ h :: ls.drop (i0 + 1) := by
      have e1 : ls[i0]'hil = h := (List.getElem?_eq_some_iff.mp hi).2
      rw [← e1, List.getElem_cons_drop, List.take_append_drop]
    have her : ls.eraseIdx i0 = ls.take i0 ++ ls.drop (i0 + 1) := List.eraseIdx_eq_take_drop_succ ..
    have hpl : (ls.take i0).length = i0 := by rw [List.length_take]; omega
    rw [s.det, hq, range_front, W.times hg tf ts, es]
    have pick : ∀ v ∈ (ls.take i0 ++ ls.drop (i0 + 1)).map (er W), ∃ r ∈ ls.eraseIdx i0, v = er W r := fun v hv => by
      obtain ⟨r, hr, rfl⟩ := List.mem_map.mp hv
      exact ⟨r, by rw [her]; exact hr, rfl⟩
    have key := dC_elim (cs := (List.range q).map (· + 1)) (pre := (ls.take i0).map (er W)) (post := (ls.drop (i0 + 1)).map (er W)) (u := er W h) (c := 0) (φ := fun v => -(v 0) * W.e part) (by rw [List.length_map, List.length_map, List.length_map, List.length_range, hpl, List.length_drop]; omega) (fun v hv => by
      show v 0 + -(v 0) * W.e part * er W h 0 = 0
      rw [er0 hh]
      have : -(v 0) * W.e part * W.e h0 = -(v 0) * (W.e part * W.e h0) := by grind
      rw [this, hp]
      grind)
    have eX : ls.map (er W) = (ls.take i0).map (er W) ++ er W h :: (ls.drop (i0 + 1)).map (er W) := by
      rw [← List.map_cons, ← List.map_append, ← hls]
    rw [eX, key, List.length_map, hpl, er0 hh, ← dC_shift, ← List.map_append, ← her, List.map_map, List.map_map, List.map_map]
    have eY : ((ls.eraseIdx i0).map (er W ∘ fun r => dnF g h r (φ r))) = ((ls.eraseIdx i0).map (((fun r x => r (x + 1)) ∘ fun r x => r x + -(r 0) * W.e part * er W h x) ∘ er W)) := List.map_congr_left fun r hr => by
      have hrl := mem' hr
      obtain ⟨r0, hr0⟩ := first r hrl
      show er W (dnF g h r (φ r)) = fun x => er W r (x + 1) + -(er W r 0) * W.e part * er W h (x + 1)
      rw [(dn r hrl).2.2, (hφ r hrl).2 r0 hr0, er0 hr0]
    have hq2 : n - (j + 1) = q := by omega
    rw [hq2, eY]
    grind
end
end Fm

namespace Fm
open Lean.Grind PySem PySem.Spec PyProof.Rows L2 Fd Fr
section
variable {g : Int} {F : Type} [CommRing F] {W : GV g F}
/-- a keeper's table with its sizes, the bottom told sharper -/
abbrev KepX (W : GV g F) (t : List (List (Int × Int))) (m : Nat) (T : List (List (Int × Int))) : Prop := KepT W t m T 560 800 1100
theorem KepX.of (hg : g = 0 ∨ Gr5 g) {t T : List (List (Int × Int))} {m : Nat} (ht : FrmT W 2520 16128000000000 m t) (hm1 : 1 ≤ m) (hm : m ≤ 5) (h : KOr W t m T) (hr : ∃ (D : Int) (M : Nat), D ≠ 0 ∧ D.natAbs ≤ 2 ^ 560 ∧ M ≤ 2 ^ 560 ∧ ∀ r ∈ T, RZ g D M m r) : KepX W t m T := by
  have k := h.kept hg ht hm1 hm
  exact ⟨k.len, hr, k.kp, k.s1, k.s2⟩
/-- all numbers turned to their contraries -/
def ngF (g : Int) (T : List (List (Int × Int))) : List (List (Int × Int)) := T.map fun r => r.map fun a => timesF g a (minusF g (1, 1))
theorem ng_row (hg : g = 0 ∨ Gr5 g) {D : Int} {M n : Nat} {r : List (Int × Int)} (h : RZ g D M n r) : RZ g D M n (r.map fun a => timesF g a (minusF g (1, 1))) ∧ er W (r.map fun a => timesF g a (minusF g (1, 1))) = fun j => -1 * er W r j := by
  have zm := (TZ.one hg).minus hg
  have h1 := rz_times hg h zm
  rw [Int.mul_one, Nat.mul_one] at h1
  refine ⟨h1, ?_⟩
  rw [er_times (V := W) hg h zm, W.minus hg (tn_one hg), W.one]
theorem KepX.neg (hg : g = 0 ∨ Gr5 g) {t T : List (List (Int × Int))} {m : Nat} (h : KepX W t m T) : KepX W t m (ngF g T) := by
  obtain ⟨D, M, hD, bD, bM, hT⟩ := h.row
  have at' : ∀ i, i < m → (((ngF g T).map (er W)).getD i zr) = fun j => -1 * ((T.map (er W)).getD i zr) j := fun i hi => by
    have gi : T[i]? = some (T[i]'(by rw [h.len]; exact hi)) := List.getElem?_eq_getElem _
    have gn : (ngF g T)[i]? = some ((T[i]'(by rw [h.len]; exact hi)).map fun a => timesF g a (minusF g (1, 1))) := by
      unfold ngF
      rw [List.getElem?_map, gi]
      rfl
    rw [getD_map gn, getD_map gi]
    exact (ng_row hg (hT _ (List.mem_of_getElem? gi))).2
  have kr : ∀ {n' : Nat} {ε μ : Int} {R : List (List (Int × Int))}, KRow W m n' ε μ (ngF g T) R → KRow W m n' (-ε) μ T R := fun {n' ε μ R} hR r hr => by
    obtain ⟨a, h1, h2, h3⟩ := hR r hr
    refine ⟨a, h1, fun y hy => ?_, h3⟩
    rw [h2 y hy, at' a h1, W.ineg]
    grind
  refine ⟨by unfold ngF; rw [List.length_map]; exact h.len, ⟨D, M, hD, bD, bM, fun r hr => ?_⟩, fun i j hi hj => ?_, fun e ε μ h1 h2 R hR => h.s1 e (-ε) μ (by rw [Int.natAbs_neg]; exact h1) h2 R (kr hR), fun e ε μ h1 h2 R hR => h.s2 e (-ε) μ (by rw [Int.natAbs_neg]; exact h1) h2 R (kr hR)⟩
  · unfold ngF at hr
    obtain ⟨u, hu, rfl⟩ := List.mem_map.mp hr
    exact (ng_row (W := W) hg (hT u hu)).1
  · rw [at' i hi, at' j hj, bil_mull, bil_mulr, h.kp i j hi hj]
    grind
end
end Fm

namespace Fm
open Lean.Grind PySem PySem.Spec PyProof.Rows L2 Fd Fr
section
variable {g : Int} {F : Type} [CommRing F] {W : GV g F}
/-- the hand of a determinant -/
noncomputable def hndF {F : Type} [CommRing F] (d : F) : Int := open Classical in if d = 1 then 1 else -1
end
end Fm

namespace Fm
open Lean.Grind PySem PySem.Spec PyProof.Rows L2 Fd Fr
section
variable {g : Int} {F : Type} [CommRing F] {W : GV g F}
theorem scl_at (c : F) (rows : List (Row F)) (i x : Nat) : ((rows.map (fun r x => c * r x)).getD i zr) x = c * (rows.getD i zr) x := by
  rw [List.getD_eq_getElem?_getD, List.getD_eq_getElem?_getD, List.getElem?_map]
  cases rows[i]? with
  | none => show (0 : F) = c * 0; grind
  | some r => rfl
/-- every row times a number: the determinant times its power -/
theorem dC_scl (c : F) : ∀ (cs : List Nat) (rows : List (Row F)), dC (rows.map (fun r x => c * r x)) cs = c ^ cs.length * dC rows cs
  | [], rows => by
    have a : dC (rows.map (fun r x => c * r x)) [] = 1 := by cases rows <;> rfl
    have b : dC rows [] = 1 := by cases rows <;> rfl
    rw [a, b]
    show (1 : F) = c ^ 0 * 1
    grind
  | c0 :: cs, rows => by
    show SF (fun i => sF i * ((rows.map (fun r x => c * r x)).getD i zr) c0 * dC ((rows.map (fun r x => c * r x)).eraseIdx i) cs) (rows.map (fun r x => c * r x)).length = c ^ (cs.length + 1) * SF (fun i => sF i * (rows.getD i zr) c0 * dC (rows.eraseIdx i) cs) rows.length
    rw [List.length_map, ← SF_mul]
    refine SF_congr fun i _ => ?_
    rw [scl_at, erase_map, dC_scl c cs]
    grind
theorem two_low (hg : g = 0 ∨ Gr5 g) : W.e (lowF g 2 1) = 1 + 1 := by
  have hf : g ≠ 0 → (1 : Int).fmod g ≠ 0 := fun z => one_fmod (hg.resolve_left z)
  have := W.low hg (u := 2) (d := 1) (by decide) hf
  rw [W.i1, show (2 : Int) = 1 + 1 from rfl, W.iadd, W.i1] at this
  grind
/-- a table twice -/
def twF (g : Int) (t : List (List (Int × Int))) : List (List (Int × Int)) := t.map fun r => r.map fun a => timesF g a (lowF g 2 1)
theorem tw_row (hg : g = 0 ∨ Gr5 g) {D : Int} {M n : Nat} {r : List (Int × Int)} (h : RZ g D M n r) : RZ g D (M * 2) n (r.map fun a => timesF g a (lowF g 2 1)) ∧ er W (r.map fun a => timesF g a (lowF g 2 1)) = fun j => (1 + 1) * er W r j := by
  have z2 := tz_low1 hg 2 (by decide)
  have h1 := rz_times hg h z2
  rw [Int.mul_one] at h1
  refine ⟨h1, ?_⟩
  rw [er_times (V := W) hg h z2, two_low hg]
theorem tw_er (hg : g = 0 ∨ Gr5 g) {D : Int} {M n : Nat} {t : List (List (Int × Int))} (h : ∀ r ∈ t, RZ g D M n r) : (twF g t).map (er W) = (t.map (er W)).map (fun r x => (1 + 1) * r x) := by
  unfold twF
  rw [List.map_map, List.map_map]
  exact List.map_congr_left fun r hr => (tw_row hg (h r hr)).2
theorem two_nz (hg : g = 0 ∨ Gr5 g) (W : GV g F) : (1 + 1 : F) ≠ 0 := fun z => W.ne (two_ne hg W 1 z)
theorem pow_nz (W : GV g F) {c : F} (h : c ≠ 0) : ∀ n : Nat, c ^ n ≠ 0
  | 0 => fun z => W.ne (by rw [← z]; grind)
  | n + 1 => fun z => pow_nz W h n (W.dom (x := c) (y := c ^ n) (by rw [← z]; grind) h)
theorem FrmT.tw (hg : g = 0 ∨ Gr5 g) {D : Int} {M m : Nat} {t : List (List (Int × Int))} (h : FrmT W D M m t) : FrmT W D (M * 2) m (twF g t) := by
  refine ⟨by unfold twF; rw [List.length_map]; exact h.len, fun r hr => ?_, fun i j hi hj => ?_, fun z => ?_⟩
  · unfold twF at hr
    obtain ⟨u, hu, rfl⟩ := List.mem_map.mp hr
    exact (tw_row (W := W) hg (h.row u hu)).1
  · rw [tw_er hg h.row, scl_at, scl_at, h.sym i j hi hj]
  · rw [tw_er hg h.row, dC_scl] at z
    exact h.det (W.dom z (pow_nz W (two_nz hg W) _))
end
/-- a form's text -/
def formT (g : Int) (t : List (List (Int × Int))) : Str := if g = 0 then tabT t else tabT t ++ Str.ofString " by " ++ (toString g : Str)
end Fm

namespace Fm
open PySem PySem.Spec PyProof.Rows L2 TL
/-! ### texts of numbers, rows and tables, read -/
def intL (z : Int) : List Nat := if z < 0 then 45 :: numL z.natAbs else numL z.natAbs
theorem tl_int (z : Int) : tl (Str.ofString (toString z)) = intL z := by
  cases z with
  | ofNat n =>
    show tl (Str.ofString (toString ((n : Nat) : Int))) = _
    rw [tl_num]
    unfold intL
    rw [if_neg (by show ¬ ((n : Nat) : Int) < 0; omega)]
    rfl
  | negSucc n =>
    have e : (toString (Int.negSucc n) : String) = "-" ++ toString (((n + 1 : Nat)) : Int) := rfl
    rw [e, tl_ofString, String.toList_append, List.map_append, ← tl_ofString, ← tl_ofString, tl_num]
    unfold intL
    rw [if_pos (Int.negSucc_lt_zero n)]
    rfl
def numTL (a : Int × Int) : List Nat := intL a.1 ++ (if a.2 = 1 then [] else 47 :: intL a.2)
theorem tl_numT (a : Int × Int) : tl (numT a) = numTL a := by
  unfold numT numTL
  by_cases h : a.2 = 1
  · rw [if_pos h, if_pos h, tl_int, List.append_nil]
  · rw [if_neg h, if_neg h, tl_append, tl_append, tl_int, tl_int, List.append_assoc]
    rfl
theorem intL_free {z : Int} {s : Nat} (h : s < 48 ∨ 57 < s) (h2 : s ≠ 45) : s ∉ intL z := by
  unfold intL
  split
  · intro hm
    rcases List.mem_cons.mp hm with e | hm
    · exact h2 e
    · exact numL_free h hm
  · exact numL_free h
theorem numTL_free {a : Int × Int} {s : Nat} (h : s < 48 ∨ 57 < s) (h2 : s ≠ 45) (h3 : s ≠ 47) : s ∉ numTL a := by
  unfold numTL
  intro hm
  rcases List.mem_append.mp hm with hm | hm
  · exact intL_free h h2 hm
  · split at hm
    · cases hm
    · rcases List.mem_cons.mp hm with e | hm
      · exact h3 e
      · exact intL_free h h2 hm
theorem numL_head (n : Nat) : ∃ c r, numL n = c :: r ∧ 48 ≤ c ∧ c ≤ 57 := by
  cases e : numL n with
  | nil => exact absurd e (numL_ne n)
  | cons c r => exact ⟨c, r, rfl, numL_digits n c (by rw [e]; exact List.mem_cons_self ..)⟩
theorem intL_head (z : Int) : ∃ c r, intL z = c :: r ∧ c ≠ 47 ∧ c ≠ 32 := by
  unfold intL
  split
  · exact ⟨_, _, rfl, by decide, by decide⟩
  · obtain ⟨c, r, e, h1, h2⟩ := numL_head z.natAbs
    exact ⟨c, r, e, by omega, by omega⟩
theorem numTL_head (a : Int × Int) : ∃ c r, numTL a = c :: r ∧ c ≠ 47 ∧ c ≠ 32 := by
  obtain ⟨c, r, e, h1, h2⟩ := intL_head a.1
  unfold numTL
  rw [e]
  exact ⟨c, _, rfl, h1, h2⟩
/-! ### figures -/
theorem dig_ascii : ∀ c : Nat, c < 128 → (Unicode.isDigit c = true ↔ 48 ≤ c ∧ c ≤ 57) := by decide +kernel
def figB (s : Str) : Bool := decide (s.length ≤ 600) && (Txt.isascii s && Txt.isdigit s)
theorem fig_iff (s : Str) : figB s = true ↔ (tl s).length ≤ 600 ∧ tl s ≠ [] ∧ NumText.AllDigits (tl s) := by
  unfold figB Txt.isascii Txt.isdigit
  rw [Bool.and_eq_true, Bool.and_eq_true, Bool.and_eq_true, decide_eq_true_iff, decide_eq_true_iff, len_tl, ← Array.all_toList, ← Array.all_toList, List.all_eq_true, List.all_eq_true]
  constructor
  · rintro ⟨h1, h2, h3, h4⟩
    refine ⟨h1, fun e => by rw [e] at h3; exact absurd h3 (by decide), fun c hc => ?_⟩
    exact (dig_ascii c (of_decide_eq_true (h2 c hc))).mp (h4 c hc)
  · rintro ⟨h1, h2, h3⟩
    refine ⟨h1, fun c hc => ?_, by cases e : tl s with | nil => exact absurd e h2 | cons c r => rw [List.length_cons]; omega, fun c hc => ?_⟩
    · exact decide_eq_true (by have := h3 c hc; omega)
    · exact (dig_ascii c (by have := h3 c hc; omega)).mpr (h3 c hc)
def digV (s : Str) : Int := ((NumText.digitsVal (tl s) : Nat) : Int)
theorem digits_lt : ∀ (l : List Nat) (a : Nat), NumText.AllDigits l → l.foldl (fun acc c => acc * 10 + (c - 48)) a < (a + 1) * 10 ^ l.length
  | [], a, _ => by rw [List.foldl_nil, List.length_nil]; omega
  | c :: r, a, h => by
    have hc := h.head
    have h1 := digits_lt r (a * 10 + (c - 48)) h.tail
    rw [List.foldl_cons, List.length_cons, Nat.pow_succ]
    refine Nat.lt_of_lt_of_le h1 ?_
    have : (a * 10 + (c - 48) + 1) ≤ (a + 1) * 10 := by omega
    calc (a * 10 + (c - 48) + 1) * 10 ^ r.length ≤ ((a + 1) * 10) * 10 ^ r.length := Nat.mul_le_mul_right _ this
      _ = (a + 1) * (10 ^ r.length * 10) := by rw [Nat.mul_assoc, Nat.mul_comm 10]
theorem fig_int {s : Str} (h : figB s = true) : intText? s = some (digV s) ∧ s.length ≤ 640 ∧ 0 ≤ digV s ∧ digV s < 10 ^ 600 := by
  obtain ⟨h1, h2, h3⟩ := (fig_iff s).mp h
  refine ⟨intText_digits h3 h2 (by rw [len_tl]; omega), by rw [len_tl]; omega, Int.natCast_nonneg _, ?_⟩
  have h4 := digits_lt (tl s) 0 h3
  rw [Nat.zero_add, Nat.one_mul] at h4
  have h5 : NumText.digitsVal (tl s) < 10 ^ 600 := Nat.lt_of_lt_of_le h4 (Nat.pow_le_pow_right (by decide) h1)
  show ((NumText.digitsVal (tl s) : Nat) : Int) < 10 ^ 600
  have : ((10 ^ 600 : Nat) : Int) = (10 : Int) ^ 600 := Int.natCast_pow 10 600
  rw [← this]
  exact Int.ofNat_lt.mpr h5
theorem numL_fig {n : Nat} {s : Str} (e : tl s = numL n) (h : n < 10 ^ 600) : figB s = true ∧ digV s = n := by
  refine ⟨(fig_iff s).mpr ⟨by rw [e]; exact numL_len (by decide) h, by rw [e]; exact numL_ne n, by rw [e]; exact numL_digits n⟩, ?_⟩
  unfold digV
  rw [e, numL_val]
/-! ### a sign in front -/
theorem sub_minus (w : Str) : Builtin.Str.subAt w (Str.ofString "-") 0 = decide ((tl w).head? = some 45) := by
  have e : Builtin.Str.subAt w (Str.ofString "-") 0 = ((w.cps.extract 0 1) == (Str.ofString "-").cps) := rfl
  have ec : (Str.ofString "-").cps = #[45] := rfl
  rw [e, ec]
  by_cases h : (tl w).head? = some 45
  · rw [decide_eq_true h, beq_iff_eq]
    apply Array.toList_inj.mp
    rw [Array.toList_extract]
    have : w.cps.toList.head? = some 45 := h
    cases e2 : w.cps.toList with
    | nil => rw [e2] at this; cases this
    | cons c r =>
      rw [e2] at this
      cases Option.some.inj this
      rfl
  · rw [decide_eq_false h, beq_eq_false_iff_ne]
    intro e3
    apply h
    have e4 := congrArg Array.toList e3
    rw [Array.toList_extract] at e4
    cases e2 : w.cps.toList with
    | nil => rw [e2] at e4; cases e4
    | cons c r =>
      rw [e2] at e4
      injection e4 with e5 _
      show (w.cps.toList).head? = _
      rw [e2, e5]
      rfl
theorem starts_minus (w : Str) : Txt.startswith w (Str.ofString "-") = decide ((tl w).head? = some 45) := by
  unfold Txt.startswith
  rw [sub_minus]
  by_cases h : (tl w).head? = some 45
  · rw [decide_eq_true h, Bool.and_true]
    refine decide_eq_true ?_
    have : 1 ≤ w.length := by
      rw [len_tl]
      cases e : tl w with
      | nil => rw [e] at h; cases h
      | cons c r => rw [List.length_cons]; omega
    exact this
  · rw [decide_eq_false h, Bool.and_false]
theorem tl_unminus (w : Str) : tl (Txt.removeprefix w (Str.ofString "-")) = if (tl w).head? = some 45 then (tl w).drop 1 else tl w := by
  unfold Txt.removeprefix
  rw [sub_minus]
  by_cases h : (tl w).head? = some 45
  · rw [decide_eq_true h, if_pos rfl, if_pos h]
    have hl : 1 ≤ w.length := by
      rw [len_tl]
      cases e : tl w with
      | nil => rw [e] at h; cases h
      | cons c r => rw [List.length_cons]; omega
    show tl (if w.length - 1 == w.length then w else Builtin.Str.strSub w 1 w.length) = _
    rw [if_neg (by rw [beq_iff_eq]; omega), tl_strSub_end]
  · rw [decide_eq_false h, if_neg (by decide), if_neg h]
    rfl
/-- what a word is the text of -/
def cutN (w : Str) : Str × Str × Str := Txt.partition (Txt.removeprefix w (Str.ofString "-")) (Str.ofString "/")
def botN (w : Str) : Str := if (cutN w).2.1.length = 0 then Str.ofString "1" else (cutN w).2.2
def sgnN (w : Str) : Int × Int := if Txt.startswith w (Str.ofString "-") = true then (-(digV (cutN w).1), digV (botN w)) else (digV (cutN w).1, digV (botN w))
def partN (w : Str) : Option (Int × Int) := if figB (cutN w).1 = true ∧ figB (botN w) = true then (if numT (sgnN w) = w then some (sgnN w) else none) else none
def FigN (x : Int × Int) : Prop := x.1.natAbs < 10 ^ 600 ∧ 0 ≤ x.2 ∧ x.2.natAbs < 10 ^ 600
theorem partN_num {x : Int × Int} (h : FigN x) : partN (numT x) = some x := by
  obtain ⟨h1, h2, h3⟩ := h
  have eb : x.2 = ((x.2.natAbs : Nat) : Int) := by omega
  have i2 : intL x.2 = numL x.2.natAbs := by unfold intL; rw [if_neg (by omega)]
  have et := tl_numT x
  -- what is left without the sign
  have er : tl (Txt.removeprefix (numT x) (Str.ofString "-")) = numL x.1.natAbs ++ (if x.2 = 1 then [] else 47 :: numL x.2.natAbs) := by
    rw [tl_unminus, et]
    unfold numTL
    rw [i2]
    by_cases hn : x.1 < 0
    · unfold intL
      rw [if_pos hn]
      rfl
    · unfold intL
      rw [if_neg hn]
      obtain ⟨c, r, e, g1, g2⟩ := numL_head x.1.natAbs
      rw [e, if_neg]
      show ¬ some c = some 45
      intro z
      cases z
      omega
  have es : Txt.startswith (numT x) (Str.ofString "-") = decide (x.1 < 0) := by
    rw [starts_minus, et]
    unfold numTL intL
    by_cases hn : x.1 < 0
    · rw [if_pos hn, decide_eq_true hn]
      rfl
    · rw [if_neg hn, decide_eq_false hn]
      obtain ⟨c, r, e, g1, g2⟩ := numL_head x.1.natAbs
      rw [e]
      refine decide_eq_false ?_
      show ¬ some c = some 45
      intro z
      cases z
      omega
  have ey : tl (Str.ofString "/") = 47 :: [] := rfl
  have f47 : ∀ n, 47 ∉ numL n := fun n => numL_free (by decide)
  have key : ∃ top over bot', Txt.partition (Txt.removeprefix (numT x) (Str.ofString "-")) (Str.ofString "/") = (top, over, bot') ∧ tl top = numL x.1.natAbs ∧ tl (if over.length = 0 then Str.ofString "1" else bot') = numL x.2.natAbs := by
    by_cases ho : x.2 = 1
    · rw [if_pos ho, List.append_nil] at er
      refine ⟨_, _, _, partition_none ey (by rw [er]; exact f47 _), er, ?_⟩
      rw [if_pos (show Str.empty.length = 0 from rfl), ho]
      exact tl_num 1
    · rw [if_neg ho] at er
      have e2 : Txt.removeprefix (numT x) (Str.ofString "-") = (⟨(numL x.1.natAbs).toArray⟩ : Str) ++ Str.ofString "/" ++ (⟨(numL x.2.natAbs).toArray⟩ : Str) := by
        refine ext_tl ?_
        rw [er, tl_append, tl_append, List.append_assoc, ey]
        rfl
      rw [e2]
      refine ⟨_, _, _, partition_app ey (by show 47 ∉ numL _; exact f47 _), rfl, ?_⟩
      rw [if_neg (by decide)]
  obtain ⟨top, over, bot', e, e1, e2⟩ := key
  obtain ⟨t1, t2⟩ := numL_fig e1 h1
  obtain ⟨b1, b2⟩ := numL_fig e2 h3
  have ec : cutN (numT x) = (top, over, bot') := e
  have ebt : botN (numT x) = if over.length = 0 then Str.ofString "1" else bot' := by unfold botN; rw [ec]
  unfold partN
  rw [ebt, ec, if_pos ⟨t1, b1⟩]
  have ez : sgnN (numT x) = if decide (x.1 < 0) = true then (-((x.1.natAbs : Nat) : Int), ((x.2.natAbs : Nat) : Int)) else (((x.1.natAbs : Nat) : Int), ((x.2.natAbs : Nat) : Int)) := by
    unfold sgnN
    rw [ebt, ec, es, t2, b2]
  rw [ez]
  have ex : (if decide (x.1 < 0) = true then (-((x.1.natAbs : Nat) : Int), ((x.2.natAbs : Nat) : Int)) else (((x.1.natAbs : Nat) : Int), ((x.2.natAbs : Nat) : Int))) = x := by
    by_cases hn : x.1 < 0
    · rw [if_pos (decide_eq_true hn), ← eb]
      exact Prod.ext (show -((x.1.natAbs : Nat) : Int) = x.1 by omega) rfl
    · rw [if_neg (by rw [decide_eq_false hn]; decide), ← eb]
      exact Prod.ext (show ((x.1.natAbs : Nat) : Int) = x.1 by omega) rfl
  rw [ex, if_pos rfl]
/-! ### rows and tables -/
def rowN (s : Str) : List (Option (Int × Int)) := (Txt.split s (Str.ofString " ")).map partN
def tabN (s : Str) : List (List (Option (Int × Int))) := (Txt.split s (Str.ofString " / ")).map rowN
theorem rowN_row {r : List (Int × Int)} (h : ∀ a ∈ r, FigN a) (hne : r ≠ []) : rowN (rowT r) = r.map some := by
  unfold rowN rowT
  have e : Txt.split (Txt.join (" " : Str) (r.map numT)) (Str.ofString " ") = r.map numT := split_join (y := (" " : Str)) (s := 32) (S := []) rfl (by decide +kernel) (fun z => hne (List.map_eq_nil_iff.mp z)) fun p hp => by
    obtain ⟨a, _, rfl⟩ := List.mem_map.mp hp
    rw [tl_numT]
    exact numTL_free (.inl (by decide)) (by decide) (by decide)
  rw [e, List.map_map]
  exact List.map_congr_left fun a ha => partN_num (h a ha)
/-- no sign c behind a blank -/
def NoB (c : Nat) (p : List Nat) : Prop := ∀ i, p[i]? = some 32 → p[i + 1]? ≠ some c
theorem NoB.free {c : Nat} {p : List Nat} (h : c ∉ p) : NoB c p := fun i _ e => h (List.mem_of_getElem? e)
theorem pre_two {c : Nat} {S l : List Nat} (h : pre (32 :: c :: S) l = true) : l[0]? = some 32 ∧ l[1]? = some c := by
  unfold pre at h
  have h := eq_of_beq h
  cases l with
  | nil => cases h
  | cons a l =>
    cases l with
    | nil => cases h
    | cons b l =>
      injection h with h1 h2
      injection h2 with h2 _
      subst h1 h2
      exact ⟨rfl, rfl⟩
theorem pre_last {c : Nat} {S p : List Nat} (h : NoB c p) : ∀ i, i < p.length → pre (32 :: c :: S) (p.drop i) = false := fun i hi => by
  cases e : pre (32 :: c :: S) (p.drop i) with
  | false => rfl
  | true =>
    obtain ⟨h1, h2⟩ := pre_two e
    rw [List.getElem?_drop] at h1 h2
    exact absurd h2 (h i h1)
theorem pre_part {c : Nat} {S p rest : List Nat} (h : NoB c p) (hc : c ≠ 32) : ∀ i, i < p.length → pre (32 :: c :: S) ((p ++ (32 :: c :: S ++ rest)).drop i) = false := fun i hi => by
  cases e : pre (32 :: c :: S) ((p ++ (32 :: c :: S ++ rest)).drop i) with
  | false => rfl
  | true =>
    obtain ⟨h1, h2⟩ := pre_two e
    rw [List.getElem?_drop] at h1 h2
    rw [Nat.add_zero, List.getElem?_append_left hi] at h1
    by_cases hj : i + 1 < p.length
    · rw [List.getElem?_append_left hj] at h2
      exact absurd h2 (h i h1)
    · rw [List.getElem?_append_right (by omega), show i + 1 - p.length = 0 by omega] at h2
      exact absurd (Option.some.inj h2).symm hc
theorem spl_joinB {c : Nat} {S : List Nat} (hc : c ≠ 32) : ∀ {parts : List (List Nat)}, parts ≠ [] → (∀ p ∈ parts, NoB c p) → spl (32 :: c :: S) 0 [] (joinL (32 :: c :: S) parts) = parts
  | [], h, _ => absurd rfl h
  | [p], _, h => by
    have := spl_last (acc := []) (pre_last (S := S) (h p (List.mem_singleton_self p)))
    exact this
  | p :: q :: r, _, h => by
    have e : joinL (32 :: c :: S) (p :: q :: r) = p ++ (32 :: c :: S ++ joinL (32 :: c :: S) (q :: r)) := rfl
    rw [e, spl_part (by simp) (pre_part (h p (List.mem_cons_self ..)) hc), spl_joinB hc (by simp) fun z hz => h z (List.mem_cons_of_mem _ hz)]
    rfl
theorem NoB.app {c : Nat} {p q : List Nat} (h1 : NoB c p) (h2 : NoB c q) (h3 : q.head? ≠ some c) : NoB c (p ++ q) := fun i e1 e2 => by
  by_cases hi : i + 1 < p.length
  · rw [List.getElem?_append_left (by omega)] at e1
    rw [List.getElem?_append_left hi] at e2
    exact h1 i e1 e2
  · by_cases hi2 : i < p.length
    · rw [List.getElem?_append_right (by omega), show i + 1 - p.length = 0 by omega] at e2
      rw [List.head?_eq_getElem?] at h3
      exact h3 e2
    · rw [List.getElem?_append_right (by omega)] at e1
      rw [List.getElem?_append_right (by omega), show i + 1 - p.length = (i - p.length) + 1 by omega] at e2
      exact h2 _ e1 e2
theorem rowL_free {s : Nat} (h : s < 48 ∨ 57 < s) (h2 : s ≠ 45) (h3 : s ≠ 47) (h4 : s ≠ 32) : ∀ r : List (Int × Int), s ∉ joinL [32] (r.map numTL)
  | [] => by intro z; cases z
  | [a] => numTL_free h h2 h3
  | a :: b :: r => by
    intro hm
    have e : joinL [32] ((a :: b :: r).map numTL) = numTL a ++ [32] ++ joinL [32] ((b :: r).map numTL) := (List.append_assoc ..).symm
    rw [e] at hm
    rcases List.mem_append.mp hm with hm | hm
    · rcases List.mem_append.mp hm with hm | hm
      · exact numTL_free h h2 h3 hm
      · exact h4 (List.mem_singleton.mp hm)
    · exact rowL_free h h2 h3 h4 _ hm
theorem rowL_no : ∀ r : List (Int × Int), NoB 47 (joinL [32] (r.map numTL)) ∧ (joinL [32] (r.map numTL)).head? ≠ some 47
  | [] => ⟨fun i e => (nomatch (show (none : Option Nat) = some 32 from e)), fun e => (nomatch (show (none : Option Nat) = some 47 from e))⟩
  | [a] => by
    obtain ⟨c, q, e, h1, h2⟩ := numTL_head a
    have ej : joinL [32] ([a].map numTL) = numTL a := rfl
    rw [ej]
    refine ⟨fun i e1 _ => absurd (List.mem_of_getElem? e1) (numTL_free (.inl (by decide)) (by decide) (by decide)), ?_⟩
    rw [e]
    intro z
    exact h1 (Option.some.inj z)
  | a :: b :: r => by
    obtain ⟨c, q, e, h1, h2⟩ := numTL_head a
    obtain ⟨i1, i2⟩ := rowL_no (b :: r)
    have ej : joinL [32] ((a :: b :: r).map numTL) = numTL a ++ ([32] ++ joinL [32] ((b :: r).map numTL)) := rfl
    rw [ej]
    refine ⟨NoB.app (fun i e1 _ => absurd (List.mem_of_getElem? e1) (numTL_free (.inl (by decide)) (by decide) (by decide))) ?_ (by intro z; cases z), ?_⟩
    · refine NoB.app (fun i e1 e2 => ?_) i1 i2
      cases i <;> cases e2
    · rw [e]
      intro z
      exact h1 (Option.some.inj z)
theorem tl_rowT (r : List (Int × Int)) : tl (rowT r) = joinL [32] (r.map numTL) := by
  unfold rowT
  rw [TL.join_eq, tl_join, List.map_map]
  have : (r.map (tl ∘ numT)) = r.map numTL := List.map_congr_left fun a _ => tl_numT a
  rw [this]
  rfl
theorem tl_tabT (t : List (List (Int × Int))) : tl (tabT t) = joinL [32, 47, 32] (t.map fun r => joinL [32] (r.map numTL)) := by
  unfold tabT
  rw [TL.join_eq, tl_join, List.map_map]
  have : (t.map (tl ∘ rowT)) = t.map fun r => joinL [32] (r.map numTL) := List.map_congr_left fun a _ => tl_rowT a
  rw [this]
  rfl
theorem tabN_tab {t : List (List (Int × Int))} (h : ∀ r ∈ t, r ≠ [] ∧ ∀ a ∈ r, FigN a) (hne : t ≠ []) : tabN (tabT t) = t.map (List.map some) := by
  have e : Txt.split (tabT t) (Str.ofString " / ") = t.map rowT := by
    refine map_tl_inj ?_
    have ey : tl (Str.ofString " / ") = [32, 47, 32] := rfl
    rw [split_spl _ _ (by rw [ey]; simp) (kind_ok (by decide +kernel)), ey, tl_tabT, spl_joinB (by decide) (fun z => hne (List.map_eq_nil_iff.mp z)) fun p hp => ?_]
    · rw [List.map_map]
      exact List.map_congr_left fun r _ => (tl_rowT r).symm
    · obtain ⟨r, _, rfl⟩ := List.mem_map.mp hp
      exact (rowL_no r).1
  unfold tabN
  rw [e, List.map_map]
  exact List.map_congr_left fun r hr => rowN_row (h r hr).2 (h r hr).1
theorem tabL_free {s : Nat} (h : s < 48 ∨ 57 < s) (h2 : s ≠ 45) (h3 : s ≠ 47) (h4 : s ≠ 32) : ∀ t : List (List (Int × Int)), s ∉ joinL [32, 47, 32] (t.map fun r => joinL [32] (r.map numTL))
  | [] => by intro z; cases z
  | [a] => rowL_free h h2 h3 h4 a
  | a :: b :: r => by
    intro hm
    have e : joinL [32, 47, 32] ((a :: b :: r).map fun r => joinL [32] (r.map numTL)) = joinL [32] (a.map numTL) ++ [32, 47, 32] ++ joinL [32, 47, 32] ((b :: r).map fun r => joinL [32] (r.map numTL)) := (List.append_assoc ..).symm
    rw [e] at hm
    rcases List.mem_append.mp hm with hm | hm
    · rcases List.mem_append.mp hm with hm | hm
      · exact rowL_free h h2 h3 h4 a hm
      · simp only [List.mem_cons, List.not_mem_nil, or_false] at hm
        omega
    · exact tabL_free h h2 h3 h4 _ hm
/-! ### how long the parts are -/
theorem spl_len (S : List Nat) : ∀ (l : List Nat) (k : Nat) (acc : List Nat), (spl S k acc l).length ≤ l.length + 1 ∧ ∀ p ∈ spl S k acc l, p.length ≤ acc.length + l.length
  | [], k, acc => by
    rw [spl_nil]
    exact ⟨by simp, fun p hp => by rw [List.mem_singleton.mp hp]; omega⟩
  | c :: r, 0, acc => by
    cases e : pre S (c :: r) with
    | true =>
      rw [spl_hit e]
      obtain ⟨h1, h2⟩ := spl_len S r (S.length - 1) []
      refine ⟨by rw [List.length_cons, List.length_cons]; omega, fun p hp => ?_⟩
      rcases List.mem_cons.mp hp with rfl | hp
      · rw [List.length_cons]; omega
      · have := h2 p hp
        rw [List.length_nil] at this
        rw [List.length_cons]
        omega
    | false =>
      rw [spl_miss e]
      obtain ⟨h1, h2⟩ := spl_len S r 0 (acc ++ [c])
      refine ⟨by rw [List.length_cons]; omega, fun p hp => ?_⟩
      have := h2 p hp
      rw [List.length_append, List.length_singleton] at this
      rw [List.length_cons]
      omega
  | c :: r, k + 1, acc => by
    have e : spl S (k + 1) acc (c :: r) = spl S k acc r := rfl
    rw [e]
    obtain ⟨h1, h2⟩ := spl_len S r k acc
    refine ⟨by rw [List.length_cons]; omega, fun p hp => ?_⟩
    have := h2 p hp
    rw [List.length_cons]
    omega
theorem split_len {x y : Str} (hy : tl y ≠ []) (hk : y.cps.all (· < 256) = true) : (Txt.split x y).length ≤ x.length + 1 ∧ ∀ p ∈ Txt.split x y, p.length ≤ x.length := by
  have e := split_spl x y hy (kind_ok hk)
  obtain ⟨h1, h2⟩ := spl_len (tl y) (tl x) 0 []
  rw [← e] at h1 h2
  rw [List.length_map] at h1
  refine ⟨by rw [len_tl]; exact h1, fun p hp => ?_⟩
  have := h2 (tl p) (List.mem_map.mpr ⟨p, hp, rfl⟩)
  rw [len_tl, len_tl]
  rw [List.length_nil] at this
  omega
theorem unm_len (w : Str) : (Txt.removeprefix w (Str.ofString "-")).length ≤ w.length := by
  rw [len_tl, tl_unminus, len_tl]
  split
  · rw [List.length_drop]; omega
  · exact Nat.le_refl _
/-- figures that the program's own numbers have -/
def SmW (w : Str) : Prop := figB (cutN w).1 = true → figB (botN w) = true → Sm (sgnN w)
theorem sgnN_num {x : Int × Int} (h : FigN x) : sgnN (numT x) = x := by
  have e := partN_num h
  unfold partN at e
  split at e
  · split at e
    · exact Option.some.inj e
    · cases e
  · cases e
theorem SmW.num {x : Int × Int} (h : FigN x) (hs : Sm x) : SmW (numT x) := fun _ _ => by rw [sgnN_num h]; exact hs
theorem figN_of {x : Int × Int} (h : Sm x) (h2 : 0 ≤ x.2) : FigN x := by
  have e : (2 : Nat) ^ 1920 ≤ 10 ^ 600 := by decide +kernel
  have g : ∀ n : Nat, n.log2 < 1920 → n < 10 ^ 600 := fun n hn => Nat.lt_of_lt_of_le (by
    by_cases h0 : n = 0
    · rw [h0]; exact Nat.pow_pos (by decide)
    · exact (Nat.log2_lt h0).mp hn) e
  exact ⟨g _ h.1, h2, g _ h.2⟩
theorem cutN_len (w : Str) : (cutN w).1.length ≤ w.length ∧ (cutN w).2.2.length ≤ w.length ∧ (cutN w).2.1.length ≤ 1 := by
  have h1 : (Txt.removeprefix w (Str.ofString "-")).length ≤ w.length := by
    rw [len_tl, tl_unminus, len_tl]
    split
    · rw [List.length_drop]; omega
    · exact Nat.le_refl _
  unfold cutN
  generalize Txt.removeprefix w (Str.ofString "-") = x at h1
  rw [partition_par _ _ (by decide)]
  have hp : ∀ (l acc : List Nat), (∀ a b, par (tl (Str.ofString "/")) acc l = some (a, b) → a.length ≤ acc.length + l.length ∧ b.length ≤ l.length) := by
    intro l
    induction l with
    | nil => intro acc a b e; cases e
    | cons c r ih =>
      intro acc a b e
      cases z : pre (tl (Str.ofString "/")) (c :: r) with
      | true =>
        rw [par_hit z] at e
        obtain ⟨e1, e2⟩ := Prod.mk.inj (Option.some.inj e)
        rw [← e1, ← e2, List.length_drop]
        omega
      | false =>
        rw [par_miss z] at e
        have := ih _ _ _ e
        rw [List.length_append, List.length_singleton] at this
        rw [List.length_cons]
        omega
  cases e : par (tl (Str.ofString "/")) [] (tl x) with
  | none => exact ⟨h1, by show Str.empty.length ≤ _; rw [show Str.empty.length = 0 from rfl]; omega, by show Str.empty.length ≤ _; rw [show Str.empty.length = 0 from rfl]; omega⟩
  | some q =>
    obtain ⟨a, b⟩ := q
    have := hp _ _ _ _ e
    rw [← len_tl x, List.length_nil] at this
    refine ⟨?_, ?_, show (Str.ofString "/").length ≤ 1 by decide⟩
    · show (⟨a.toArray⟩ : Str).length ≤ _
      rw [len_tl, tl_mk]; omega
    · show (⟨b.toArray⟩ : Str).length ≤ _
      rw [len_tl, tl_mk]; omega
/-! ### a word between blanks -/
theorem cut_at {t : List (List (Int × Int))} {b : Str} {c : Nat} {S : List Nat} {y : Str} (ey : tl y = 32 :: c :: S) (h : c < 48 ∨ 57 < c) (h2 : c ≠ 45) (h3 : c ≠ 47) (h4 : c ≠ 32) : Txt.partition (tabT t ++ y ++ b) y = (tabT t, y, b) := by
  rw [partition_par _ y (by rw [ey]; simp), tl_append, tl_append, List.append_assoc, ey, par_part (by simp) (pre_part (NoB.free (by rw [tl_tabT]; exact tabL_free h h2 h3 h4 t)) h4)]
  show ((⟨([] ++ tl (tabT t)).toArray⟩ : Str), y, (⟨(tl b).toArray⟩ : Str)) = _
  rw [List.nil_append, mk_tl, mk_tl]
theorem cut_no {t : List (List (Int × Int))} {c : Nat} {S : List Nat} {y : Str} (ey : tl y = 32 :: c :: S) (h : c < 48 ∨ 57 < c) (h2 : c ≠ 45) (h3 : c ≠ 47) (h4 : c ≠ 32) : Txt.partition (tabT t) y = (tabT t, Str.empty, Str.empty) := by
  rw [partition_par _ y (by rw [ey]; simp), ey, par_none (pre_last (NoB.free (by rw [tl_tabT]; exact tabL_free h h2 h3 h4 t)))]
/-! ### their values -/
def OpV (H : Hp) (v : V) : Option (Int × Int) → Prop
  | none => v = .non
  | some x => NumV H v x
theorem OpV.kt {H H' : Hp} {v : V} {o : Option (Int × Int)} (h : OpV H v o) (k : Kt H H') : OpV H' v o := by
  cases o with
  | none => exact h
  | some x => exact NumV.kt h k
theorem rowT_split {r : List (Int × Int)} (hne : r ≠ []) : Txt.split (rowT r) (Str.ofString " ") = r.map numT := split_join (y := (" " : Str)) (s := 32) (S := []) rfl (by decide +kernel) (fun z => hne (List.map_eq_nil_iff.mp z)) fun p hp => by
    obtain ⟨a, _, rfl⟩ := List.mem_map.mp hp
    rw [tl_numT]
    exact numTL_free (.inl (by decide)) (by decide) (by decide)
theorem tabT_split {t : List (List (Int × Int))} (hne : t ≠ []) : Txt.split (tabT t) (Str.ofString " / ") = t.map rowT := by
  refine map_tl_inj ?_
  have ey : tl (Str.ofString " / ") = [32, 47, 32] := rfl
  rw [split_spl _ _ (by rw [ey]; simp) (kind_ok (by decide +kernel)), ey, tl_tabT, spl_joinB (by decide) (fun z => hne (List.map_eq_nil_iff.mp z)) fun p hp => ?_]
  · rw [List.map_map]
    exact List.map_congr_left fun r _ => (tl_rowT r).symm
  · obtain ⟨r, _, rfl⟩ := List.mem_map.mp hp
    exact (rowL_no r).1
/-- a good table's text: all its words are short enough -/
theorem SmW.tab {t : List (List (Int × Int))} (h : ∀ r ∈ t, r ≠ [] ∧ ∀ a ∈ r, FigN a ∧ Sm a) (hne : t ≠ []) : ∀ p ∈ Txt.split (tabT t) (Str.ofString " / "), ∀ w ∈ Txt.split p (Str.ofString " "), SmW w := fun p hp w hw => by
  rw [tabT_split hne] at hp
  obtain ⟨r, hr, rfl⟩ := List.mem_map.mp hp
  rw [rowT_split (h r hr).1] at hw
  obtain ⟨a, ha, rfl⟩ := List.mem_map.mp hw
  exact SmW.num ((h r hr).2 a ha).1 ((h r hr).2 a ha).2
theorem OpV.row {H : Hp} {v : V} {r : List (Int × Int)} (h : SqV OpV H v (r.map some)) : RowV H v r := by
  obtain ⟨p, xs, e, hp, hl, hx⟩ := h
  refine ⟨p, xs, e, hp, by rw [hl, List.length_map], fun i x a h1 h2 => ?_⟩
  exact hx i x (some a) h1 (by rw [List.getElem?_map, h2]; rfl)
theorem OpV.tab {H : Hp} {v : V} {t : List (List (Int × Int))} (h : SqV (SqV OpV) H v (t.map (List.map some))) : TabV H v t := by
  obtain ⟨p, xs, e, hp, hl, hx⟩ := h
  refine ⟨p, xs, e, hp, by rw [hl, List.length_map], fun i x a h1 h2 => OpV.row ?_⟩
  exact hx i x (a.map some) h1 (by rw [List.getElem?_map, h2]; rfl)
theorem sqO_kt {H H' : Hp} {v : V} {r : List (Option (Int × Int))} (h : SqV OpV H v r) (k : Kt H H') : SqV OpV H' v r := by
  obtain ⟨p, xs, e, hp, hl, hx⟩ := h
  exact ⟨p, xs, e, k _ _ hp, hl, fun i x a h1 h2 => (hx i x a h1 h2).kt k⟩
end Fm

namespace Fm
open Lean.Grind PySem PySem.Spec PyProof.Rows L2 Fd Fr
section
variable {g : Int} {F : Type} [CommRing F] {W : GV g F}
/-! ### a form times a number -/
def sclF (g : Int) (x : Int × Int) (t : List (List (Int × Int))) : List (List (Int × Int)) := t.map fun r => r.map fun a => timesF g a x
theorem scl_er (hg : g = 0 ∨ Gr5 g) {D Dx : Int} {M Mx n : Nat} {x : Int × Int} (hx : TZ g Dx Mx x) {t : List (List (Int × Int))} (h : ∀ r ∈ t, RZ g D M n r) : (sclF g x t).map (er W) = (t.map (er W)).map (fun r i => W.e x * r i) := by
  unfold sclF
  rw [List.map_map, List.map_map]
  exact List.map_congr_left fun r hr => er_times (V := W) hg (h r hr) hx
theorem FrmT.scl (hg : g = 0 ∨ Gr5 g) {D Dx : Int} {M Mx m : Nat} {t : List (List (Int × Int))} {x : Int × Int} (hx : TZ g Dx Mx x) (hn : W.e x ≠ 0) (h : FrmT W D M m t) : FrmT W (D * Dx) (M * Mx) m (sclF g x t) := by
  refine ⟨by unfold sclF; rw [List.length_map]; exact h.len, fun r hr => ?_, fun i j hi hj => ?_, fun z => ?_⟩
  · unfold sclF at hr
    obtain ⟨u, hu, rfl⟩ := List.mem_map.mp hr
    exact rz_times hg (h.row u hu) hx
  · rw [scl_er hg hx h.row, scl_at, scl_at, h.sym i j hi hj]
  · rw [scl_er hg hx h.row, dC_scl] at z
    exact h.det (W.dom z (pow_nz W hn _))
end
theorem two_law : ∃ (F : Type) (R : CommRing F) (W : GV 0 F), FrmT W 2520 16128000000000 2 [[(1, 1), (0, 1)], [(0, 1), (-1, 2)]] := by
  have z0 : (0 : Int) = 0 ∨ Gr5 0 := .inl rfl
  obtain ⟨F, R, ⟨W⟩⟩ := gv_any (g := 0) z0
  refine ⟨F, R, W, ?_⟩
  have e : diagF [(1, 1), (-1, 2)] = [[(1, 1), (0, 1)], [(0, 1), (-1, 2)]] := by decide
  rw [← e]
  refine diag_frm (k := 4) z0 W rfl fun a ha => ?_
  rcases List.mem_cons.mp ha with rfl | ha
  · exact ⟨(TZ.one z0).wide 2520 |>.mono (by decide), tn_one z0, by decide⟩
  · rw [List.mem_singleton.mp ha]
    have ht : TN 0 4 (-1, 2) := ⟨.inl ⟨rfl, by decide, by decide⟩, by decide, by decide⟩
    exact ⟨TZ.dvd z0 ht (Nat.le_refl 4) (by decide) (by decide), ht, by decide⟩
theorem three_law : ∃ (F : Type) (R : CommRing F) (W : GV 3 F), FrmT W 2520 16128000000000 1 [[(2, 1)]] := by
  have z0 : (3 : Int) = 0 ∨ Gr5 3 := .inr (.inl rfl)
  obtain ⟨F, R, ⟨W⟩⟩ := gv_any (g := 3) z0
  refine ⟨F, R, W, ?_⟩
  have e : diagF [(2, 1)] = [[(2, 1)]] := by decide
  rw [← e]
  refine diag_frm (k := 4) z0 W rfl fun a ha => ?_
  rw [List.mem_singleton.mp ha]
  have ht : TN 3 4 (2, 1) := ⟨.inr ⟨by decide, by decide, by decide, rfl⟩, by decide, by decide⟩
  exact ⟨TZ.dvd z0 ht (Nat.le_refl 4) (by decide) (by decide), ht, by decide⟩
theorem two_texts : formT 0 [[(1, 1), (0, 1)], [(0, 1), (-1, 2)]] = Str.ofString "1 0 / 0 -1/2" ∧ formT 3 [[(2, 1)]] = Str.ofString "2 by 3" := by
  constructor <;> decide +kernel
end Fm

namespace Fm
open PySem PySem.Spec PyProof.Rows L2
/-! ### d.get(k) of a written dict with text keys -/
/-- at d: a written dict of texts and whole numbers -/
def DicT (K : PySem.W.Frag) (w : World) (d : Addr) (kvs : List (Str × Int)) : Prop := (∃ es n, KDict K w d es n) ∧ ∀ z, ∃ r, PySem.W.nsIn K d z = some r ∧ RelV (((kvs.find? fun q => decide (q.1 = z)).map fun q => V.int q.2).getD .non) (r.getD .none)
def tKGet (d : Addr) (kvs : List (Str × Int)) (td ty : TE) : TE := fun σ H Q => td σ H fun x H1 => x = .ref d ∧ ty σ H1 fun y H2 => ∃ z, y = .str z ∧ Q (((kvs.find? fun q => decide (q.1 = z)).map fun q => V.int q.2).getD .non) H2
theorem pe_kget {X : Cx} {o e : Expr} {apos cpos : Pos} {td ty : TE} {d : Addr} {kvs : List (Str × Int)} (D : DicT X.K X.w d kvs) (ho : PE X o td) (he : PE X e ty) (m : M1 X o "get" apos e cpos) : PE X (.Call (.Attribute o "get" apos) [e] [] cpos) (tKGet d kvs td ty) := by
  obtain ⟨⟨es, n, D⟩, hv⟩ := D
  refine ⟨fun pins s σ H Q I h => ?_⟩
  refine wpAny_Call_method m.base m.few m.line PySem.F.plainAttrs_dict PySem.F.slot_dict_get PySem.F.type_dict_get (thn (ho.run pins s σ H _ I h) fun u s1 ⟨x, H1, I1, rx, ex, q1⟩ => ?_)
  subst ex
  obtain rfl : u = Value.ref d := rx
  refine ⟨kd_type D I1, fun b q => ?_, ?_⟩
  · cases q
    exact ⟨_, I1.kIn _ _ D.at_, rfl⟩
  rw [m.trees]
  refine Calls.callWith_builtin rfl (Calls.evalArgs_plain (Calls.spliced_cons (thn (he.run pins s1 σ H1 _ I1 q1) fun iv s2 ⟨y, H2, I2, ry, z, ey, q2⟩ => Calls.spliced_nil ?_)))
  subst ey
  obtain ⟨t, rfl⟩ := ry
  obtain ⟨r, er, rr⟩ := hv z
  refine call_meetsIn PySem.F.slot_dict_get (kd_type D I2) PySem.F.entry_dict_get (PySem.F.args_dict_get_2 _ _) (meets_dict_get (strKind X.prog X.w) d (PySem.strKind_is X.prog X.w z t) D.low) ⟨_, PySem.W.mapOf_K (prog := X.prog) I2.kIn D.at_ D.lit, ?_⟩
  rw [PySem.W.find_K D.at_ er]
  exact ⟨_, H2, I2.tok _, rr, q2⟩
/-- from what the head looks at -/
theorem dicT_of {K : PySem.W.Frag} {w : World} {a : Addr} {kvs : List (Str × Int)} (h : He.dicW K a = some (He.keysIn w.params (kvs.map (·.1)))) (hv : He.valsB K a (kvs.map fun q => (q.1, He.Dv.int q.2)) = true) : DicT K w a kvs := by
  refine ⟨He.dicW_ok h, fun z => ?_⟩
  cases e : kvs.find? fun q => decide (q.1 = z) with
  | some q =>
    have h1 := List.find?_some e
    have h2 := List.mem_of_find?_eq_some e
    have h3 : q.1 = z := of_decide_eq_true h1
    obtain ⟨u, e1, e2⟩ := He.valsB_ok hv (q := (q.1, He.Dv.int q.2)) (List.mem_map.mpr ⟨q, h2, rfl⟩)
    rw [← h3]
    exact ⟨some u, e1, e2⟩
  | none =>
    refine ⟨none, ?_, rfl⟩
    have hk : ∀ q ∈ kvs, q.1 ≠ z := fun q hq e2 => by
      have := List.find?_eq_none.mp e q hq
      exact this (decide_eq_true e2)
    obtain ⟨es, n, D⟩ := He.dicW_ok h
    have hd := h
    unfold He.dicW at hd
    rw [D.at_] at hd
    dsimp only at hd
    have hks : es.toList.map He.keyOf = He.keysIn w.params (kvs.map (·.1)) := by
      split at hd
      · exact Option.some.inj hd
      · cases hd
    have hkey : ∀ en ∈ es.toList, ∃ x t, en.key = .str x t ∧ x ≠ z := fun en hen => by
      have h1 : He.keyOf en ∈ He.keysIn w.params (kvs.map (·.1)) := by rw [← hks]; exact List.mem_map.mpr ⟨en, hen, rfl⟩
      unfold He.keysIn at h1
      obtain ⟨k, hk1, hk2⟩ := List.mem_map.mp h1
      obtain ⟨q, hq, rfl⟩ := List.mem_map.mp hk1
      unfold He.keyOf at hk2
      split at hk2
      · rename_i x t ek
        have := (Prod.mk.inj (Option.some.inj hk2)).1
        exact ⟨x, t, ek, this ▸ hk q hq⟩
      · cases hk2
    unfold PySem.W.nsIn
    rw [D.at_]
    dsimp only
    have f1 : es.toList.find? (fun d => d.key.isStr z) = none := by
      refine List.find?_eq_none.mpr fun en hen => ?_
      obtain ⟨x, t, ek, hx⟩ := hkey en hen
      rw [ek]
      show ¬ (x == z) = true
      rw [beq_iff_eq]
      exact hx
    have f2 : es.toList.any (fun d => d.refKey) = false := by
      refine List.any_eq_false.mpr fun en hen => ?_
      obtain ⟨x, t, ek, hx⟩ := hkey en hen
      simp [PySem.DictEntry.refKey, ek]
    rw [f1]
    dsimp only
    rw [f2]
    rfl
theorem w_kget {d : Addr} {kvs : List (Str × Int)} {td ty : TE} {σ : L2.St} {H : Hp} {Q : VK} (h : td σ H fun x H1 => x = .ref d ∧ ty σ H1 fun y H2 => ∃ z, y = .str z ∧ Q (((kvs.find? fun q => decide (q.1 = z)).map fun q => V.int q.2).getD .non) H2) : tKGet d kvs td ty σ H Q := h

theorem w_m1 {r : V → List V → Hp → VK → Prop} {to te : TE} {σ : L2.St} {H : Hp} {Q : VK} (h : to σ H fun x H1 => (∃ a, x = .str a) ∧ te σ H1 fun y H2 => r x [y] H2 Q) : tM1 r to te σ H Q := h
theorem w_m0 {r : V → List V → Hp → VK → Prop} {to : TE} {σ : L2.St} {H : Hp} {Q : VK} (h : to σ H fun x H1 => (∃ a, x = .str a) ∧ r x [] H1 Q) : tM0 r to σ H Q := h
def wheels : List (Str × Int) := [("3", 3), ("5", 5), ("7", 7), ("11", 11), ("13", 13)]
end Fm

namespace Fm
open PySem PySem.Spec PyProof.Rows L2
/-! ### lambdas that are kept: function objects known on the heap -/
/-- the object at f is a lambda of that code, its code object at d -/
def LamO (q : Str) (params : Arguments) (body : Expr) (scope : Scope) (clo : List (Str × Addr)) (f d : Addr) : HO := .ext fun h => ∃ pm ctv : Value, h.get? f = some (PySem.W.kla_obj "<lambda>" q params body scope clo pm d ctv)
theorem lamO_ntbl {q : Str} {params : Arguments} {body : Expr} {scope : Scope} {clo : List (Str × Addr)} {f d : Addr} (ps : Array Value) : LamO q params body scope clo f d ≠ .tbl ps := fun z => by
  unfold LamO at z
  cases z
section
variable {X : Cx} {pins : List (Addr × Obj)} {σ : L2.St} {H : Hp} {s : Shared}
/-- what is told of a lambda once it is made -/
def LamMade (X : Cx) (pins : List (Addr × Obj)) (σ : L2.St) (H : Hp) (params : Arguments) (body : Expr) (scope : Scope) (T : List (Addr × Str)) (f d : Addr) (H1 : Hp) (s1 : Shared) : Prop :=
  Inv X pins σ H1 s1 ∧ LamX.ExtN H H1 ∧ LamX.Tabs T H1 ∧ H1 f = some (LamO (X.env.qual ++ "<lambda>") params body scope (cloFrom X.env.cells scope.names []) f d) ∧ H1 d = some (LamX.CodeO d (X.env.qual ++ "<lambda>"))
end
/-- a kept lambda, made in X, and how its body reads there -/
def LamIs (X : Cx) (k : Nat) (f d : Addr) (t : XK → TE) (H : Hp) : Prop := ∃ (params : Arguments) (body : Expr) (scope : Scope), LamX.LamS X.env.scope scope ∧
  (∀ (q : Str) (cl : List (Str × Addr)) (pm cv ctv : Value), bindArgs (PySem.W.kla_fn "<lambda>" q params body scope cl pm cv ctv) ⟨[], []⟩ = pure []) ∧
  (∀ (A : Around) (outer : List Env) (s : Shared) (H : Hp) (E : XK) (f c : Addr), Room k (A.deeper (LamX.lamEnv X scope s.heap.objs.size f c)) → PE (lamN X A outer s H E scope f c) body (t E)) ∧
  H f = some (LamO (X.env.qual ++ "<lambda>") params body scope (cloFrom X.env.cells scope.names []) f d) ∧ H d = some (LamX.CodeO d (X.env.qual ++ "<lambda>"))
theorem LamIs.ext {X : Cx} {k : Nat} {f d : Addr} {t : XK → TE} {H H' : Hp} (l : LamIs X k f d t H) (e : LamX.ExtN H H') : LamIs X k f d t H' := by
  obtain ⟨pa, bo, sc, h1, h2, h3, h4, h5⟩ := l
  exact ⟨pa, bo, sc, h1, h2, h3, e _ _ h4 lamO_ntbl, e _ _ h5 LamX.codeO_ne⟩
def tLamV (X : Cx) (T : List (Addr × Str)) (k : Nat) (t : XK → TE) : TE := fun _ H Q => LamX.Tabs T H ∧ ∀ (f d : Addr) (H1 : Hp), LamX.ExtN H H1 → LamX.Tabs T H1 → LamIs X k f d t H1 → Q (.ref f) H1
section
variable {X : Cx}
end
end Fm

namespace Fm
open PySem PySem.Spec PyProof.Rows L2
section
variable {X : Cx}
/-- what stands of the def's context within a block of it -/
def Back (X : Cx) (pins : List (Addr × Obj)) (σ : L2.St) (Y : Cx) : Prop := ∀ (pins' : List (Addr × Obj)) (σ' : L2.St) (H' : Hp) (s' : Shared), Inv Y pins' σ' H' s' → Inv X pins σ H' s'
/-- as tLcH, the item's reading by the slots of the def: those stay as they were at the block's start -/
def tLcB (K : PySem.W.Frag) (ti : TE) (g : TG) (tt : TT) (te : L2.St → TE) (vs : List Nat) : TE := fun σ H Q => ti σ H fun v H1 => ∃ (a : Addr) (xs : List V), v = .ref a ∧ SqL K H1 a xs ∧ ∀ D, H1 D = none → ∃ W : Nat → Hp → Prop,
  W 0 (upd H1 D (.lst [])) ∧ (∀ i H', W i H' → SqL K H' a xs) ∧ (∀ H', W xs.length H' → Q (.ref D) H') ∧ ∀ i x H', xs[i]? = some x → W i H' → g x (wipe σ vs) H' fun σ2 H2 => wipe σ2 vs = wipe σ vs ∧ tt σ2 H2 fun b H3 =>
    if b = true then te σ σ2 H3 fun y H4 => ∃ acc, H4 D = some (.lst acc) ∧ acc.length < sizeLine ∧ W (i + 1) (upd H4 D (.lst (acc ++ [y]))) else W (i + 1) H3
/-- what x(d) makes of a kept lambda that stands in slot i of the block, made in X: σ0 what X's slots are -/
def tKept (X : Cx) (k i : Nat) (TT : (XK → Hp → VK → Prop) → Hp → VK → Prop) (σ0 : L2.St) : TE := fun σ H Q => ∃ (f d : Addr) (t : XK → TE), σ[i]? = some (some (.ref f)) ∧ LamIs X k f d t H ∧ TT (fun E H' Q' => LamIs X k f d t H' ∧ t E σ0 H' Q') H Q
end
end Fm

namespace Fm
open PySem PySem.Spec PyProof.Rows L2
/-! ### deeds: lambdas kept in a list, each with the name of what it raises -/
def dV : Option Str → V
  | none => .non
  | some n => .str n
/-- what a def that may refuse is to show -/
def EndsX (K : PySem.W.Frag) (H : Hp) (Q : VK) (E : XK) (nm : Option Str) : Prop := (∀ n, nm = some n → ∀ H', Same H H' → E (.ref (He.ga K n)) none H') ∧ (nm = none → ∀ v H', Same H H' → Q v H')
def Refuses (K : PySem.W.Frag) (H : Hp) (E : XK) (nm : Option Str) : Prop := ∀ n, nm = some n → ∀ H', Same H H' → E (.ref (He.ga K n)) none H'
section
variable {X : Cx} {k : Nat} {K K1 : PySem.W.Frag} {T : List (Addr × Str)} {σ : L2.St} {J : Hp}
/-- the kept lambda v, run at any later heap, ends so -/
def Deed (X : Cx) (k : Nat) (K : PySem.W.Frag) (T : List (Addr × Str)) (σ : L2.St) (J : Hp) (v : V) (nm : Option Str) : Prop := ∃ (f d : Addr) (t : XK → TE), v = .ref f ∧ LamIs X k f d t J ∧ (∀ n, nm = some n → MirC K (He.ga K n) n) ∧
  ∀ J', Sx T J J' → ∀ (E : XK) (Qn : VK), EndsX K J' Qn E nm → t E σ J' Qn
/-- a pair of a name and a deed -/
def DeedN (X : Cx) (k : Nat) (K : PySem.W.Frag) (T : List (Addr × Str)) (σ : L2.St) (J : Hp) (x : V) : Prop := ∃ (p : Addr) (nm : Option Str) (v : V), x = .ref p ∧ J p = some (.tup [dV nm, v]) ∧ Deed X k K T σ J v nm
end
end Fm

namespace Fm
open PySem PySem.Spec PyProof.Rows L2
/-! ### methods called, instances made, where what is raised is wished for at the caller's slots -/
def tMethW (C : Addr) (m : Str) (sp : Sp) (dvs : List V) (E : L2.St → XK) (o : TE) (t : TA) : TE := fun σ H Q => tMeth C m sp dvs (E σ) o t σ H Q
def tMakeW (C : Addr) (sp : Sp) (dvs : List V) (E : L2.St → XK) (t : TA) : TE := fun σ H Q => tMake C sp dvs (E σ) t σ H Q
def tMakeNW (C : Addr) (n m : Nat) (sp : Sp) (gV : List V → List V → List V) (E : L2.St → XK) (t tk : TA) : TE := fun σ H Q => tMakeN C n m sp gV (E σ) t tk σ H Q
section
variable {X : Cx} {CX : CXT} {k : Nat} {f C : Addr} {fd : FuncData} {ps ks : List Str} {sp : Sp} {dvs : List V} {ds : List Value} {E : L2.St → XK} {x m : Str} {p pos apos : Pos} {e o : Expr} {es : List Expr} {kws : List Keyword} {ta : TE} {t tk : TA} {pl : Sem Bool}
end
end Fm

namespace Fm
open PySem PySem.Spec PyProof.Rows L2
/-! ### methods called by keywords, where what is raised is wished for at the caller's slots -/
def tMethNW (C : Addr) (m : Str) (n k : Nat) (sp : Sp) (gV : List V → List V → List V) (E : L2.St → XK) (o : TE) (t tk : TA) : TE := fun σ H Q => o σ H fun x H1 => ∃ a dx fs, x = .ref a ∧ H1 a = some (.ins C dx fs) ∧ fs.lookup m = none ∧ t σ H1 fun vs H2 => tk σ H2 fun zs H3 => vs.length = n ∧ zs.length = k ∧ sp (gV (x :: vs) zs) H3 Q (E σ)
section
variable {X : Cx} {CX : CXT} {k n : Nat} {f C : Addr} {fd : FuncData} {ps ks : List Str} {sp : Sp} {E : L2.St → XK} {x m : Str} {pos apos : Pos} {e o : Expr} {es : List Expr} {kws : List Keyword} {ta : TE} {t tk : TA} {pl : Sem Bool} {g : List Value → List Value → List Value} {gV : List V → List V → List V}
end
theorem w_methNW {C : Addr} {m : Str} {n k : Nat} {sp : Sp} {gV : List V → List V → List V} {E : L2.St → XK} {o : TE} {t tk : TA} {σ : L2.St} {H : Hp} {Q : VK} (h : o σ H fun x H1 => ∃ a dx fs, x = .ref a ∧ H1 a = some (.ins C dx fs) ∧ fs.lookup m = none ∧ t σ H1 fun vs H2 => tk σ H2 fun zs H3 => vs.length = n ∧ zs.length = k ∧ sp (gV (x :: vs) zs) H3 Q (E σ)) : tMethNW C m n k sp gV E o t tk σ H Q := h
theorem w_methW1 {C : Addr} {m : Str} {sp : Sp} {dvs : List V} {E : L2.St → XK} {ta : TE} {t : TA} {σ : L2.St} {H : Hp} {Q : VK} (h : ta σ H fun x H1 => ∃ a dx fs, x = .ref a ∧ H1 a = some (.ins C dx fs) ∧ fs.lookup m = none ∧ t σ H1 fun vs H2 => sp (x :: (vs ++ dvs)) H2 Q (E σ)) : tMethW C m sp dvs E ta t σ H Q := h
theorem w_makeW {C : Addr} {sp : Sp} {dvs : List V} {E : L2.St → XK} {t : TA} {σ : L2.St} {H : Hp} {Q : VK} (h : t σ H fun vs H1 => ∀ x dx, H1 x = none → H1 dx = none → dx ≠ x → sp (.ref x :: (vs ++ dvs)) (upd (upd H1 dx (.own x)) x (.ins C dx [])) (fun v H2 => v = .non ∧ Q (.ref x) H2) (E σ)) : tMakeW C sp dvs E t σ H Q := h
/-! ### str(x) by an own __str__ -/
structure StrC (K : PySem.W.Frag) (C f : Addr) : Prop where
  str : PySem.W.findIn K (.ref C) "__str__" = some (some (.ref f))
  fn : PySem.W.isFn K (.ref f) = true
theorem strB_ok {K : PySem.W.Frag} {x : Str} (h : strB K x = true) : StrC K (He.ga K x) (He.ma K (He.ga K x) "__str__") := by
  obtain ⟨h1, h2⟩ := He.ba h
  exact ⟨He.eqO_ok h1, h2⟩
def rStrO (C : Addr) (sp : Sp) (E : XK) : List V → Hp → VK → Prop := fun xs H Q => ∃ a dx fs, xs = [V.ref a] ∧ H a = some (.ins C dx fs) ∧ sp [.ref a] H (fun v H' => ∃ y, v = .str y ∧ Q v H') E
section
variable {X : Cx} {CX : CXT} {n : Nat} {C f : Addr} {fd : FuncData} {ps : List Str} {sp : Sp} {E : XK}
theorem strO_call (F : FnOk X.prog X.w X.K X.mg X.base CX n f fd ps sp) (hb : Binds X.K fd ps []) (hx : Passes CX X E) {A : Around} (sb : L2.Sub X n A) {pins : List (Addr × Obj)} {s : Shared} {σ : L2.St} {H : Hp} {a : Addr} {Q : VK} (I : Inv X pins σ H s) (hsp : sp [.ref a] H Q E) :
    wpAny (model X.prog X.w) A (call (.ref f) [.ref a]) (fun v s' => ∃ x H', Inv X pins σ H' s' ∧ RelV x v ∧ Q x H') X.xe s := by
  have e0 : Env0 X.prog X.w X.K X.mg X.base A X.stack s H := by
    have e := I.env0
    exact ⟨by rw [sb.fr]; exact e.frames, e.mod, e.bs, e.bsz, e.funs, e.frf, e.hok, e.bare⟩
  have hl := F.len _ _ _ _ hsp
  have r2 : Vals [V.ref a] [Value.ref a] := .cons rfl .nil
  refine wpAny_call (codeAny_mono (F.run A X.stack s H ⟨[.ref a], []⟩ [.ref a] [.ref a] _ E sb.room e0 (by
    have := hb s [.ref a] I.kIn (by simpa using hl)
    simpa using this) r2 hsp) fun r s' hq => ?_)
  cases r with
  | error e => exact hx pins σ H s e s' I hq
  | ok fl =>
    cases fl with
    | ret w =>
      obtain ⟨z, H', I', rz, q⟩ := I.after hq
      exact ⟨z, H', I', rz, q⟩
    | next => exact False.elim hq
    | brk => exact False.elim hq
    | cont => exact False.elim hq
theorem call_strO (c : StrC X.K C f) (F : FnOk X.prog X.w X.K X.mg X.base CX n f fd ps sp) (hb : Binds X.K fd ps []) (hx : Passes CX X E) (hr : Room (n + 2) X.A) : CallR X (.type "str") (rStrO C sp E) := by
  intro pins s σ H xs us Q I r h
  obtain ⟨a, dx, fs, rfl, ha, q⟩ := h
  obtain ⟨u, rfl, ru⟩ := r.one
  cases (show u = Value.ref a from ru)
  obtain ⟨mA, J, _⟩ := ins_get I.hok ha
  obtain ⟨od, J, _⟩ := J.look
  have sb : L2.Sub X (n + 2) X.A := ⟨hr, rfl⟩
  refine PySem.W.kso_call sb.in1.in1.room.units0 I.kIn J c.str c.fn ?_
  refine wpAny_mono (strO_call F hb hx sb.in1.in1 I q) (fun z s' q => ?_) fun _ _ e => e
  obtain ⟨z', H', I', rz, y, ey, q⟩ := q
  subst ey
  obtain ⟨t, rfl⟩ := (show ∃ t, z = Value.str y t from rz)
  exact ⟨.str y, H', I', ⟨_, rfl⟩, q⟩
end
theorem w_strO {C : Addr} {sp : Sp} {E : XK} {a dx : Addr} {fs : List (Str × V)} {H : Hp} {Q : VK} (h : H a = some (.ins C dx fs)) (q : sp [.ref a] H (fun v H' => ∃ y, v = .str y ∧ Q v H') E) : rStrO C sp E [.ref a] H Q := ⟨a, dx, fs, rfl, h, q⟩
/-! ### lines -/
structure LineC (K : PySem.W.Frag) : Prop where
  c : Cls K (He.ga K "Line")
  nf : NoAttr K (He.ga K "Line") "form"
  nm : NoAttr K (He.ga K "Line") "mirrors"
/-- a line of the form f, its mirrors at L -/
def LineV (K : PySem.W.Frag) (H : Hp) (k f : V) (L : Addr) : Prop := ∃ p dx, k = .ref p ∧ H p = some (.ins (He.ga K "Line") dx [("form", f), ("mirrors", .ref L)])
theorem LineV.sm {K : PySem.W.Frag} {H H' : Hp} {k f : V} {L : Addr} (h : LineV K H k f L) (s : Same H H') : LineV K H' k f L := by
  obtain ⟨p, dx, e, hp⟩ := h
  exact ⟨p, dx, e, s _ _ hp⟩
/-! ### isinstance of Form, with both answers -/
structure KitF (K : PySem.W.Frag) : Prop where
  iC : C8.InsC K (He.ga K "Form")
  iD : C8.InsC K (He.ga K "Line")
  non : PySem.W.kitOne K (.type "NoneType") (.ref (He.ga K "Form")) = some false
  tup : PySem.W.kitOne K (.type "tuple") (.ref (He.ga K "Form")) = some false
  int : PySem.W.kitOne K (.type "int") (.ref (He.ga K "Form")) = some false
  str : PySem.W.kitOne K (.type "str") (.ref (He.ga K "Form")) = some false
  lin : PySem.W.kitOne K (.ref (He.ga K "Line")) (.ref (He.ga K "Form")) = some false
/-- a thing that is no form -/
inductive NoFm (K : PySem.W.Frag) (H : Hp) : V → Prop
  | non : NoFm K H .non
  | tup {p : Addr} {xs : List V} (h : H p = some (.tup xs)) : NoFm K H (.ref p)
  | int (i : Int) : NoFm K H (.int i)
  | str (z : Str) : NoFm K H (.str z)
  | lin {f : V} {L : Addr} {x : V} (h : LineV K H x f L) : NoFm K H x
theorem NoFm.sm {K : PySem.W.Frag} {H H' : Hp} {x : V} (h : NoFm K H x) (s : Same H H') : NoFm K H' x := by
  cases h with
  | non => exact .non
  | tup h => exact .tup (s _ _ h)
  | int i => exact .int i
  | str z => exact .str z
  | lin h => exact .lin (h.sm s)
end Fm

namespace PySem.W
open PySem PySem.Calls PyProof.Rows Builtin
section
variable {prog : Program} {w : World} {A : Around} {E : Value → Shared → Prop} {s : Shared} {K : Frag} {x C f : Addr} {ox : Obj} {od : Option Obj}
def LenBool (Q : Bool → Shared → Prop) (v : Value) (s' : Shared) : Prop := match v with
  | .int n _ => (0 ≤ n ∧ n < 2 ^ 63) ∧ Q (n != 0) { s' with toks := s'.toks + 1 }
  | _ => False
end
end PySem.W
namespace Fm
open PySem PySem.Spec PyProof.Rows L2
structure BooC (K : PySem.W.Frag) (C f : Addr) : Prop where
  nb : PySem.W.findIn K (.ref C) "__bool__" = some none
  len : LenC K C f
structure ReprC (K : PySem.W.Frag) (C f : Addr) : Prop where
  str : PySem.W.findIn K (.ref C) "__repr__" = some (some (.ref f))
  fn : PySem.W.isFn K (.ref f) = true
theorem reprB_ok {K : PySem.W.Frag} {x : Str} (h : reprB K x = true) : ReprC K (He.ga K x) (He.ma K (He.ga K x) "__repr__") := by
  obtain ⟨h1, h2⟩ := He.ba h
  exact ⟨He.eqO_ok h1, h2⟩
/-- bool(x) by an own __len__ -/
def rBooO (C : Addr) (sp : Sp) (E : XK) : List V → Hp → VK → Prop := fun xs H Q => ∃ a dx fs, xs = [V.ref a] ∧ H a = some (.ins C dx fs) ∧ sp [.ref a] H (fun v H' => ∃ i, v = .int i ∧ 0 ≤ i ∧ i < 2 ^ 62 ∧ Q (.bl (i != 0)) H') E
section
variable {X : Cx} {CX : CXT} {n : Nat} {C f : Addr} {fd : FuncData} {ps : List Str} {sp : Sp} {E : XK}
theorem call_reprO (c : ReprC X.K C f) (F : FnOk X.prog X.w X.K X.mg X.base CX n f fd ps sp) (hb : Binds X.K fd ps []) (hx : Passes CX X E) (hr : Room (n + 1) X.A) : CallR X (.builtin "repr") (rStrO C sp E) := by
  intro pins s σ H xs us Q I r h
  obtain ⟨a, dx, fs, rfl, ha, q⟩ := h
  obtain ⟨u, rfl, ru⟩ := r.one
  cases (show u = Value.ref a from ru)
  obtain ⟨mA, J, _⟩ := ins_get I.hok ha
  obtain ⟨od, J, _⟩ := J.look
  obtain ⟨m, hF⟩ := I.fr
  have sb : L2.Sub X (n + 1) X.A := ⟨hr, rfl⟩
  refine PySem.W.repr_K sb.in1.room.units0 hF I.ok.mod.kin J c.str c.fn ?_
  refine wpAny_mono (strO_call F hb hx sb.in1 I q) (fun z s' q => ?_) fun _ _ e => e
  obtain ⟨z', H', I', rz, y, ey, q⟩ := q
  subst ey
  obtain ⟨t, rfl⟩ := (show ∃ t, z = Value.str y t from rz)
  exact ⟨.str y, H', I', ⟨_, rfl⟩, q⟩
end
/-! ### methods called by names alone, and where nothing is caught -/
def tMethNW0 (C : Addr) (m : Str) (k : Nat) (sp : Sp) (gV : List V → List V → List V) (E : L2.St → XK) (o : TE) (tk : TA) : TE := fun σ H Q => o σ H fun x H1 => ∃ a dx fs, x = .ref a ∧ H1 a = some (.ins C dx fs) ∧ fs.lookup m = none ∧ tk σ H1 fun zs H3 => zs.length = k ∧ sp (gV [x] zs) H3 Q (E σ)
section
variable {X : Cx} {CX : CXT} {k n : Nat} {f C : Addr} {fd : FuncData} {ps ks : List Str} {sp : Sp} {x m : Str} {pos apos : Pos} {e o : Expr} {es : List Expr} {kws : List Keyword} {ta : TE} {t tk : TA} {pl : Sem Bool} {g : List Value → List Value → List Value} {gV : List V → List V → List V}
end
theorem w_methNW0 {C : Addr} {m : Str} {k : Nat} {sp : Sp} {gV : List V → List V → List V} {E : L2.St → XK} {o : TE} {tk : TA} {σ : L2.St} {H : Hp} {Q : VK} (h : o σ H fun x H1 => ∃ a dx fs, x = .ref a ∧ H1 a = some (.ins C dx fs) ∧ fs.lookup m = none ∧ tk σ H1 fun zs H3 => zs.length = k ∧ sp (gV [x] zs) H3 Q (E σ)) : tMethNW0 C m k sp gV E o tk σ H Q := h
end Fm

namespace Fm
open PySem PySem.Spec PyProof.Rows L2 Fd Fr
local macro_rules | `(tactic| walk_at "s1") => `(tactic| first
  | with_reducible refine w_seq ?_ | with_reducible refine w_asg ?_ | with_reducible refine w_ret ?_ | with_reducible refine w_drop ?_ | with_reducible refine w_ifs ?_ | with_reducible refine w_next ?_
  | with_reducible refine w_op ?_ | with_reducible refine w_un ?_ | with_reducible refine w_c ?_ | ((with_reducible refine' w_var ?h ?_); (case h => exact rfl)) | with_reducible refine w_name ?_ | with_reducible refine w_sub ?_
  | with_reducible refine w_test ?_ | with_reducible refine w_B ?_ | with_reducible refine w_exb ?_ | with_reducible refine w_and ?_ | with_reducible refine w_or ?_ | with_reducible refine w_not ?_
  | with_reducible refine w_andV ?_ | with_reducible refine w_orV ?_ | with_reducible refine w_notV ?_ | with_reducible refine w_if ?_
  | with_reducible refine w_I0 ?_ | with_reducible refine w_U ?_ | with_reducible refine w_eqI ?_ | with_reducible refine w_neI ?_
  | with_reducible refine w_nil ?_ | with_reducible refine w_cons ?_ | with_reducible refine w_tup ?_ | with_reducible refine w_lst ?_ | with_reducible refine w_cb ?_ | with_reducible refine w_call ?_
  | ((with_reducible refine' w_ixL ?h ?e ?_); (case h => assumption); (case e => exact rfl)) | ((with_reducible refine' w_ixT ?h ?e ?_); (case h => assumption); (case e => exact rfl))
  | with_reducible refine w_par ?_ | with_reducible refine w_ex2 ?_ | with_reducible refine w_t ?_ | with_reducible refine w_f ?_ | with_reducible refine w_for ?_ | with_reducible refine w_sl ?_ | with_reducible refine w_part ?_ | with_reducible refine w_nopart ?_ | with_reducible refine w_exi ?_ | with_reducible refine w_chain ?_ | with_reducible refine w_rng2 ?_ | with_reducible refine w_bm ?_ | with_reducible refine w_revL ?_ | with_reducible refine w_js ?_ | with_reducible refine w_js0 ?_ | with_reducible refine w_fmt ?_ | with_reducible refine w_lc ?_ | with_reducible refine w_yes ?_ | with_reducible refine w_zipA ?_ | with_reducible refine w_itup ?_ | with_reducible refine w_ilist ?_ | with_reducible refine w_gcons ?_ | with_reducible refine w_gnil ?_
  | ((with_reducible refine' w_gtup ?h ?e ?_); (case h => assumption); (case e => exact rfl)) | ((with_reducible refine' w_glst ?h ?e ?_); (case h => assumption); (case e => exact rfl)) | with_reducible refine w_tru ?_ | with_reducible refine w_rng1 ?_ | with_reducible refine w_e1 ?_ | with_reducible refine w_e2 ?_ | with_reducible refine w_bits ?_ | with_reducible refine w_step2 ?_ | with_reducible refine w_lenSetI ?_ | with_reducible refine w_enum ?_ | with_reducible refine w_enumT ?_ | with_reducible refine w_par3 ?_ | with_reducible refine w_ex3 ?_ | with_reducible refine w_fld ?_ | with_reducible refine w_setF ?_ | with_reducible refine w_makeN ?_ | with_reducible refine w_make ?_ | with_reducible refine w_meth ?_ | with_reducible refine w_methW1 ?_ | with_reducible refine w_methNW ?_ | with_reducible refine w_methNW0 ?_ | with_reducible refine w_makeW ?_ | with_reducible refine w_makeNW ?_ | with_reducible refine w_bm0 ?_ | with_reducible refine w_kget ?_ | with_reducible refine w_m1 ?_ | with_reducible refine w_m0 ?_ | with_reducible refine w_rng3 ?_ | with_reducible refine w_callN ?_ | with_reducible refine w_callN0 ?_ | with_reducible refine w_lstRg ?_ | with_reducible refine w_callS ?_)
local macro_rules | `(tactic| walk_at "go") => `(tactic| repeat (walk_at "s1"))
local macro_rules | `(tactic| walk_at "tr") => `(tactic| repeat (first | assumption | (refine TB.kd (Kd.of (by assumption)) ?_) | (refine TB.kd (by assumption) ?_)))

theorem TN.dn {g : Int} {k l : Nat} {a c : Int × Int} (hg : g = 0 ∨ Gr5 g) (ha : TN g k a) (hc : TN g l c) : g ≠ 0 → (a.2 * c.2).fmod g ≠ 0 := fun z => by
  have g0 := ha.gpos z
  rw [ha.one g0, hc.one g0]
  exact one_fmod (hg.resolve_left z)

abbrev s_is_whole : Stmt := topS 7
theorem sc_is_whole : FnScope ["thing"] ["thing"] (defScope s_is_whole) := ⟨rfl, rfl, rfl, by decide +kernel, rfl, by decide +kernel, by decide +kernel⟩

abbrev s_common_divisor : Stmt := topS 8
theorem sc_common_divisor : FnScope ["a", "b"] ["a", "b"] (defScope s_common_divisor) := ⟨rfl, rfl, rfl, by decide +kernel, rfl, by decide +kernel, by decide +kernel⟩

abbrev s_wheel_back : Stmt := topS 14
theorem sc_wheel_back : FnScope ["wheel", "whole", "found"] ["wheel", "whole"] (defScope s_wheel_back) := ⟨rfl, rfl, rfl, by decide +kernel, rfl, by decide +kernel, by decide +kernel⟩

abbrev s_show_number : Stmt := topS 15
theorem sc_show_number : FnScope ["x"] ["x"] (defScope s_show_number) := ⟨rfl, rfl, rfl, by decide +kernel, rfl, by decide +kernel, by decide +kernel⟩

abbrev s_turned : Stmt := topS 20
theorem sc_turned : FnScope ["table", "at", "row"] ["table"] (defScope s_turned) := ⟨rfl, rfl, rfl, by decide +kernel, rfl, by decide +kernel, by decide +kernel⟩

abbrev s_smaller_row : Stmt := topS 23
theorem sc_smaller_row : FnScope ["row", "head", "last", "at"] ["row", "head", "last"] (defScope s_smaller_row) := ⟨rfl, rfl, rfl, by decide +kernel, rfl, by decide +kernel, by decide +kernel⟩

abbrev s_head_place : Stmt := topS 24
theorem sc_head_place : FnScope ["rows", "begin", "at", "place"] ["rows", "begin", "at"] (defScope s_head_place) := ⟨rfl, rfl, rfl, by decide +kernel, rfl, by decide +kernel, by decide +kernel⟩

abbrev s_Form___eq__ : Stmt := ((clsB (topS 30)).getD 1 (.Pass ⟨0, 0, 0, 0⟩))
theorem sc_Form___eq__ : FnScope ["self", "other"] ["self", "other"] (defScope s_Form___eq__) := ⟨rfl, rfl, rfl, by decide +kernel, rfl, by decide +kernel, by decide +kernel⟩

abbrev s_Form___len__ : Stmt := ((clsB (topS 30)).getD 2 (.Pass ⟨0, 0, 0, 0⟩))
theorem sc_Form___len__ : FnScope ["self"] ["self"] (defScope s_Form___len__) := ⟨rfl, rfl, rfl, by decide +kernel, rfl, by decide +kernel, by decide +kernel⟩

abbrev s_are_figures : Stmt := topS 40
theorem sc_are_figures : FnScope ["text"] ["text"] (defScope s_are_figures) := ⟨rfl, rfl, rfl, by decide +kernel, rfl, by decide +kernel, by decide +kernel⟩

abbrev s__law_bag : Stmt := topS 42
theorem sc__law_bag : FnScope ["_law_script", "_law_at", "_law_cell", "_law_great", "_law_primes", "_law_mixed"] ["_law_script", "_law_at"] (defScope s__law_bag) := ⟨rfl, rfl, rfl, by decide +kernel, rfl, by decide +kernel, by decide +kernel⟩

abbrev s__law_take : Stmt := topS 43
theorem sc__law_take : FnScope ["_law_bag_here", "_law_many", "_law_digit"] ["_law_bag_here", "_law_many"] (defScope s__law_take) := ⟨rfl, rfl, rfl, by decide +kernel, rfl, by decide +kernel, by decide +kernel⟩

abbrev s__law_shared : Stmt := topS 44
theorem sc__law_shared : FnScope ["_law_one", "_law_other"] ["_law_one", "_law_other"] (defScope s__law_shared) := ⟨rfl, rfl, rfl, by decide +kernel, rfl, by decide +kernel, by decide +kernel⟩

abbrev s__law_turned : Stmt := topS 53
theorem sc__law_turned : FnScope ["_law_table", "_law_k", "_law_row"] ["_law_table"] (defScope s__law_turned) := ⟨rfl, rfl, rfl, by decide +kernel, rfl, by decide +kernel, by decide +kernel⟩

abbrev s__law_ones : Stmt := topS 54
theorem sc__law_ones : FnScope ["_law_many", "_law_i", "_law_j"] ["_law_many"] (defScope s__law_ones) := ⟨rfl, rfl, rfl, by decide +kernel, rfl, by decide +kernel, by decide +kernel⟩

abbrev s__law_number_text : Stmt := topS 61
theorem sc__law_number_text : FnScope ["_law_x"] ["_law_x"] (defScope s__law_number_text) := ⟨rfl, rfl, rfl, by decide +kernel, rfl, by decide +kernel, by decide +kernel⟩

abbrev s_is_ground : Stmt := topS 11
theorem sc_is_ground : FnScope ["thing"] ["thing"] (defScope s_is_ground) := ⟨rfl, rfl, rfl, by decide +kernel, rfl, by decide +kernel, by decide +kernel⟩

abbrev s_is_number : Stmt := topS 12
theorem sc_is_number : FnScope ["ground", "thing", "top", "bottom"] ["ground", "thing"] (defScope s_is_number) := ⟨rfl, rfl, rfl, by decide +kernel, rfl, by decide +kernel, by decide +kernel⟩

abbrev s_lowest : Stmt := topS 13
theorem sc_lowest : FnScope ["ground", "top", "bottom", "shared"] ["ground", "top", "bottom"] (defScope s_lowest) := ⟨rfl, rfl, rfl, by decide +kernel, rfl, by decide +kernel, by decide +kernel⟩

abbrev s_whole_row : Stmt := topS 19
theorem sc_whole_row : FnScope ["row", "bottom", "x"] ["row"] (defScope s_whole_row) := ⟨rfl, rfl, rfl, by decide +kernel, rfl, by decide +kernel, by decide +kernel⟩

abbrev s_whole_determinant : Stmt := topS 22
theorem sc_whole_determinant : FnScope ["rows", "sign", "last", "place", "head", "row"] ["rows"] (defScope s_whole_determinant) := ⟨rfl, rfl, rfl, by decide +kernel, rfl, by decide +kernel, by decide +kernel⟩

abbrev s_show_row : Stmt := topS 25
theorem sc_show_row : FnScope ["row", "x"] ["row"] (defScope s_show_row) := ⟨rfl, rfl, rfl, by decide +kernel, rfl, by decide +kernel, by decide +kernel⟩

abbrev s_number_part : Stmt := topS 39
theorem sc_number_part : FnScope ["word", "top", "over", "bottom", "x"] ["word"] (defScope s_number_part) := ⟨rfl, rfl, rfl, by decide +kernel, rfl, by decide +kernel, by decide +kernel⟩

abbrev s__law_low : Stmt := topS 45
theorem sc__law_low : FnScope ["_law_g", "_law_up", "_law_down", "_law_one", "_law_common"] ["_law_g", "_law_up", "_law_down"] (defScope s__law_low) := ⟨rfl, rfl, rfl, by decide +kernel, rfl, by decide +kernel, by decide +kernel⟩

abbrev s__law_ground : Stmt := topS 55
theorem sc__law_ground : FnScope ["_law_bag_here"] ["_law_bag_here"] (defScope s__law_ground) := ⟨rfl, rfl, rfl, by decide +kernel, rfl, by decide +kernel, by decide +kernel⟩

abbrev s__law_letters : Stmt := topS 58
theorem sc__law_letters : FnScope ["_law_bag_here", "_law_g"] ["_law_bag_here", "_law_g"] (defScope s__law_letters) := ⟨rfl, rfl, rfl, by decide +kernel, rfl, by decide +kernel, by decide +kernel⟩

abbrev s__law_row_text : Stmt := topS 62
theorem sc__law_row_text : FnScope ["_law_row", "_law_x"] ["_law_row"] (defScope s__law_row_text) := ⟨rfl, rfl, rfl, by decide +kernel, rfl, by decide +kernel, by decide +kernel⟩

abbrev s_is_row : Stmt := topS 17
theorem sc_is_row : FnScope ["ground", "thing", "many", "x"] ["ground", "thing", "many"] (defScope s_is_row) := ⟨rfl, rfl, rfl, by decide +kernel, rfl, by decide +kernel, by decide +kernel⟩

abbrev s_determinant : Stmt := topS 21
theorem sc_determinant : FnScope ["ground", "table", "rows", "bottom", "row", "tops", "under"] ["ground", "table"] (defScope s_determinant) := ⟨rfl, rfl, rfl, by decide +kernel, rfl, by decide +kernel, by decide +kernel⟩

abbrev s_show_table : Stmt := topS 26
theorem sc_show_table : FnScope ["table", "row"] ["table"] (defScope s_show_table) := ⟨rfl, rfl, rfl, by decide +kernel, rfl, by decide +kernel, by decide +kernel⟩

abbrev s_row_parts : Stmt := topS 38
theorem sc_row_parts : FnScope ["text", "word"] ["text"] (defScope s_row_parts) := ⟨rfl, rfl, rfl, by decide +kernel, rfl, by decide +kernel, by decide +kernel⟩

abbrev s__law_plus : Stmt := topS 46
theorem sc__law_plus : FnScope ["_law_g", "_law_x", "_law_y"] ["_law_g", "_law_x", "_law_y"] (defScope s__law_plus) := ⟨rfl, rfl, rfl, by decide +kernel, rfl, by decide +kernel, by decide +kernel⟩

abbrev s__law_times : Stmt := topS 47
theorem sc__law_times : FnScope ["_law_g", "_law_x", "_law_y"] ["_law_g", "_law_x", "_law_y"] (defScope s__law_times) := ⟨rfl, rfl, rfl, by decide +kernel, rfl, by decide +kernel, by decide +kernel⟩

abbrev s__law_minus : Stmt := topS 48
theorem sc__law_minus : FnScope ["_law_g", "_law_x"] ["_law_g", "_law_x"] (defScope s__law_minus) := ⟨rfl, rfl, rfl, by decide +kernel, rfl, by decide +kernel, by decide +kernel⟩

abbrev s__law_number : Stmt := topS 56
theorem sc__law_number : FnScope ["_law_bag_here", "_law_g", "_law_wide", "_law_down"] ["_law_bag_here", "_law_g"] (defScope s__law_number) := ⟨rfl, rfl, rfl, by decide +kernel, rfl, by decide +kernel, by decide +kernel⟩

abbrev s__law_table_text : Stmt := topS 63
theorem sc__law_table_text : FnScope ["_law_table", "_law_row"] ["_law_table"] (defScope s__law_table_text) := ⟨rfl, rfl, rfl, by decide +kernel, rfl, by decide +kernel, by decide +kernel⟩

abbrev s_is_table : Stmt := topS 18
theorem sc_is_table : FnScope ["ground", "thing", "high", "wide", "row"] ["ground", "thing", "high", "wide"] (defScope s_is_table) := ⟨rfl, rfl, rfl, by decide +kernel, rfl, by decide +kernel, by decide +kernel⟩

abbrev s_Form___str__ : Stmt := ((clsB (topS 30)).getD 3 (.Pass ⟨0, 0, 0, 0⟩))
theorem sc_Form___str__ : FnScope ["self"] ["self"] (defScope s_Form___str__) := ⟨rfl, rfl, rfl, by decide +kernel, rfl, by decide +kernel, by decide +kernel⟩

abbrev s_table_parts : Stmt := topS 37
theorem sc_table_parts : FnScope ["text", "part"] ["text"] (defScope s_table_parts) := ⟨rfl, rfl, rfl, by decide +kernel, rfl, by decide +kernel, by decide +kernel⟩

abbrev s__law_scaled : Stmt := topS 49
theorem sc__law_scaled : FnScope ["_law_g", "_law_row", "_law_x", "_law_one"] ["_law_g", "_law_row", "_law_x"] (defScope s__law_scaled) := ⟨rfl, rfl, rfl, by decide +kernel, rfl, by decide +kernel, by decide +kernel⟩

abbrev s__law_added : Stmt := topS 50
theorem sc__law_added : FnScope ["_law_g", "_law_row", "_law_other", "_law_one", "_law_two"] ["_law_g", "_law_row", "_law_other"] (defScope s__law_added) := ⟨rfl, rfl, rfl, by decide +kernel, rfl, by decide +kernel, by decide +kernel⟩

abbrev s__law_other_than_nought : Stmt := topS 57
theorem sc__law_other_than_nought : FnScope ["_law_bag_here", "_law_g", "_law_x"] ["_law_bag_here", "_law_g"] (defScope s__law_other_than_nought) := ⟨rfl, rfl, rfl, by decide +kernel, rfl, by decide +kernel, by decide +kernel⟩

abbrev s__law_form_text : Stmt := topS 64
theorem sc__law_form_text : FnScope ["_law_g", "_law_table"] ["_law_g", "_law_table"] (defScope s__law_form_text) := ⟨rfl, rfl, rfl, by decide +kernel, rfl, by decide +kernel, by decide +kernel⟩

abbrev s_is_form_table : Stmt := topS 31
theorem sc_is_form_table : FnScope ["ground", "thing", "many", "most"] ["ground", "thing"] (defScope s_is_form_table) := ⟨rfl, rfl, rfl, by decide +kernel, rfl, by decide +kernel, by decide +kernel⟩

abbrev s__law_through : Stmt := topS 51
theorem sc__law_through : FnScope ["_law_g", "_law_row", "_law_table", "_law_found", "_law_x", "_law_one"] ["_law_g", "_law_row", "_law_table"] (defScope s__law_through) := ⟨rfl, rfl, rfl, by decide +kernel, rfl, by decide +kernel, by decide +kernel⟩

abbrev s__law_wide_form : Stmt := topS 65
theorem sc__law_wide_form : FnScope ["_law_bag_here", "_law_g", "_law_table", "_law_far", "_law_x", "_law_row"] ["_law_bag_here", "_law_g", "_law_table"] (defScope s__law_wide_form) := ⟨rfl, rfl, rfl, by decide +kernel, rfl, by decide +kernel, by decide +kernel⟩

abbrev s_Form___init__ : Stmt := ((clsB (topS 30)).getD 0 (.Pass ⟨0, 0, 0, 0⟩))
theorem sc_Form___init__ : FnScope ["self", "table", "ground"] ["self", "table", "ground"] (defScope s_Form___init__) := ⟨rfl, rfl, rfl, by decide +kernel, rfl, by decide +kernel, by decide +kernel⟩

abbrev s__law_product : Stmt := topS 52
theorem sc__law_product : FnScope ["_law_g", "_law_one", "_law_other", "_law_row"] ["_law_g", "_law_one", "_law_other"] (defScope s__law_product) := ⟨rfl, rfl, rfl, by decide +kernel, rfl, by decide +kernel, by decide +kernel⟩

abbrev s_Form___repr__ : Stmt := ((clsB (topS 30)).getD 4 (.Pass ⟨0, 0, 0, 0⟩))
theorem sc_Form___repr__ : FnScope ["self"] ["self"] (defScope s_Form___repr__) := ⟨rfl, rfl, rfl, by decide +kernel, rfl, by decide +kernel, by decide +kernel⟩

abbrev s__law_changed : Stmt := topS 59
theorem sc__law_changed : FnScope ["_law_bag_here", "_law_g", "_law_table", "_law_many", "_law_turn", "_law_i", "_law_j", "_law_x", "_law_letters_here", "_law_step", "_law_row"] ["_law_bag_here", "_law_g", "_law_table"] (defScope s__law_changed) := ⟨rfl, rfl, rfl, by decide +kernel, rfl, by decide +kernel, by decide +kernel⟩

abbrev s_form_or_none : Stmt := topS 36
theorem sc_form_or_none : FnScope ["text", "before", "by", "wheel", "ground", "table"] ["text"] (defScope s_form_or_none) := ⟨rfl, rfl, rfl, by decide +kernel, rfl, by decide +kernel, by decide +kernel⟩

abbrev s__law_form : Stmt := topS 60
theorem sc__law_form : FnScope ["_law_bag_here", "_law_g", "_law_many", "_law_way", "_law_lack", "_law_row", "_law_table", "_law_k", "_law_i", "_law_j"] ["_law_bag_here", "_law_g", "_law_many"] (defScope s__law_form) := ⟨rfl, rfl, rfl, by decide +kernel, rfl, by decide +kernel, by decide +kernel⟩

abbrev s_read_form : Stmt := topS 35
theorem sc_read_form : FnScope ["text", "form"] ["text"] (defScope s_read_form) := ⟨rfl, rfl, rfl, by decide +kernel, rfl, by decide +kernel, by decide +kernel⟩

abbrev s__law_is_told : Stmt := topS 66
theorem sc__law_is_told : FnScope ["_law_g", "_law_table", "_law_form_here", "_law_text", "_law_found"] ["_law_g", "_law_table", "_law_form_here"] (defScope s__law_is_told) := ⟨rfl, rfl, rfl, by decide +kernel, rfl, by decide +kernel, by decide +kernel⟩

abbrev s_law : Stmt := topS 67
theorem sc_law : FnScope ["_law_script", "_law_ahead", "_law_k", "_law_bag_here", "_law_g", "_law_table", "_law_form_here", "_law_two"] ["_law_script"] (defScope s_law) := ⟨rfl, rfl, rfl, by decide +kernel, rfl, by decide +kernel, by decide +kernel⟩


variable {P : Program} {w : World} {K : PySem.W.Frag} {mg : Str → Option Value} {base : Heap} {T : List (Addr × Str)}
def sp_is_whole (K : PySem.W.Frag) : Sp := fun vs H Q _ => ∃ (v : V), vs = [v] ∧ Tv H v ∧ Q (.bl (wholeB v)) H

def sp_common_divisor (K : PySem.W.Frag) : Sp := fun vs H Q _ => ∃ (a c : Int), vs = [.int a, .int c] ∧ Q (.int (Int.gcd a c : Int)) H

def sp_wheel_back (K : PySem.W.Frag) : Sp := fun vs H Q _ => ∃ (g w k : Int), vs = [.int g, .int w] ∧ 3 ≤ g ∧ 1 ≤ k ∧ k ≤ 13 ∧ (k * w).fmod g = 1 ∧ ∀ f : Int, 1 ≤ f → f ≤ 13 → (f * w).fmod g = 1 → Q (.int f) H

def sp_show_number (K : PySem.W.Frag) : Sp := fun vs H Q _ => ∃ (v : V) (a : Int × Int), vs = [v] ∧ NumV H v a ∧ Sm a ∧ Q (.str (numT a)) H

def sp_turned (K : PySem.W.Frag) : Sp := fun vs H Q _ => ∃ (v : V) (t : List (List (Int × Int))) (l : Nat), vs = [v] ∧ TabV H v t ∧ 0 < t.length ∧ t.length ≤ 20 ∧ (∀ r ∈ t, r.length = l) ∧ l ≤ 20 ∧ ∀ (v' : V) (H' : Hp), Same H H' → TabV H' v' (turnF l t) → Q v' H'

def sp_smaller_row (K : PySem.W.Frag) : Sp := fun vs H Q _ => ∃ (vr vh : V) (r h : List Int) (last : Int) (b : Nat), vs = [vr, vh, .int last] ∧ IL H vr r ∧ IL H vh h ∧ r.length = h.length ∧ 0 < r.length ∧ r.length ≤ 100 ∧ (∀ x, (gt r x).natAbs < 2 ^ b) ∧ (∀ x, (gt h x).natAbs < 2 ^ b) ∧ last ≠ 0 ∧ last.natAbs < 2 ^ b ∧ 0 < b ∧ b ≤ 8000 ∧ ∀ (p' : Addr) (H' : Hp), Same H H' → H' p' = some (.lst ((smF last h r).map V.int)) → H p' = none → Q (.ref p') H'

def sp_head_place (K : PySem.W.Frag) : Sp := fun vs H Q _ => ∃ (v : V) (rows : List (List Int)) (b a : Nat), vs = [v, .int (b : Int), .int (a : Int)] ∧ ILs H v rows ∧ (∀ r ∈ rows, a < r.length) ∧ rows.length ≤ 100 ∧ b ≤ 100 ∧
  ((∀ (i : Nat) (r : List Int), b ≤ i → rows[i]? = some r → gt r a = 0) → Q .non H) ∧ ∀ (i : Nat) (r : List Int), b ≤ i → rows[i]? = some r → gt r a ≠ 0 → Q (.int (i : Int)) H

def sp_Form___eq__ (K : PySem.W.Frag) : Sp := fun vs H Q _ => ∃ (a b : Addr) (g h : Int) (tv tw : V) (t s : List (List (Int × Int))), vs = [.ref a, .ref b] ∧ FormV K H (.ref a) g tv ∧ FormV K H (.ref b) h tw ∧ TabV H tv t ∧ TabV H tw s ∧ ∀ H', Same H H' → Q (.bl (decide (g = h) && decide (t = s))) H'

def sp_Form___len__ (K : PySem.W.Frag) : Sp := fun vs H Q _ => ∃ (x tv : V) (g : Int) (t : List (List (Int × Int))), vs = [x] ∧ FormV K H x g tv ∧ TabV H tv t ∧ t.length ≤ 100 ∧ Q (.int (t.length : Int)) H

def sp_are_figures (K : PySem.W.Frag) : Sp := fun vs H Q _ => ∃ (s : Str), vs = [.str s] ∧ s.length ≤ 1000000 ∧ Q (.bl (figB s)) H

def sp__law_bag (K : PySem.W.Frag) : Sp := fun vs H Q _ => ∃ (a : Addr) (ns : List Int) (k : Int), vs = [.ref a, .int k] ∧ SqL K H a (ns.map V.int) ∧ 0 ≤ k ∧ k < 64 ∧ ∀ (p : Addr) (H' : Hp), H p = none → Same H H' → Bag H' p → Q (.ref p) H'
theorem bag_primes {i : Int} (h0 : 0 ≤ i) (h8 : i < 8) : ∃ m : Int, atI [V.int 2147483647, V.int 2147483629, V.int 2147483587, V.int 2147483579, V.int 2147483563, V.int 2147483549, V.int 2147483543, V.int 2147483497] i = some (.int m) ∧ 0 < m ∧ m ≤ 2147483647 := by
  rcases (by omega : i = 0 ∨ i = 1 ∨ i = 2 ∨ i = 3 ∨ i = 4 ∨ i = 5 ∨ i = 6 ∨ i = 7) with rfl | rfl | rfl | rfl | rfl | rfl | rfl | rfl <;> exact ⟨_, rfl, by decide, by decide⟩

def sp__law_take (K : PySem.W.Frag) : Sp := fun vs H Q _ => ∃ (b : Addr) (m : Int), vs = [.ref b, .int m] ∧ 0 < m ∧ m < 1073741824 ∧ Bag H b ∧ ∀ (H' : Hp) (d : Int), 0 ≤ d → d < m → Mv b H H' → Bag H' b → Q (.int d) H'

def sp__law_shared (K : PySem.W.Frag) : Sp := fun vs H Q _ => ∃ (a c : Int), vs = [.int a, .int c] ∧ Q (.int (Int.gcd a c : Int)) H
theorem abs_nat (a : Int) : (if a < 0 then -a else a) = ((a.natAbs : Nat) : Int) := by
  split <;> omega

def sp__law_turned (K : PySem.W.Frag) : Sp := fun vs H Q _ => ∃ (v : V) (t : List (List (Int × Int))) (l : Nat), vs = [v] ∧ TabV H v t ∧ 0 < t.length ∧ t.length ≤ 10 ∧ (∀ r ∈ t, r.length = l) ∧ l ≤ 10 ∧ ∀ (v' : V) (H' : Hp), Same H H' → TabV H' v' (turnF l t) → Q v' H'

def sp__law_ones (K : PySem.W.Frag) : Sp := fun vs H Q _ => ∃ (m : Nat), vs = [.int (m : Int)] ∧ m ≤ 10 ∧ ∀ (v : V) (H' : Hp), Same H H' → TabV H' v (onesF m) → Q v H'

def sp__law_number_text (K : PySem.W.Frag) : Sp := fun vs H Q _ => ∃ (v : V) (a : Int × Int), vs = [v] ∧ NumV H v a ∧ Sm a ∧ Q (.str (numT a)) H

def sp_is_ground (K : PySem.W.Frag) : Sp := fun vs H Q _ => ∃ (i : Int), vs = [.int i] ∧ Q (.bl (grdB (.int i))) H

def sp_is_number (K : PySem.W.Frag) : Sp := fun vs H Q _ => ∃ (g : Int) (v : V) (kb nb : Nat), vs = [.int g, v] ∧ TB kb (nb + 1) H v ∧ Q (.bl (numOf H g v)) H

def sp_lowest (K : PySem.W.Frag) : Sp := fun vs H Q _ => ∃ (g u d : Int), vs = [.int g, .int u, .int d] ∧ ((g = 0 ∧ d ≠ 0 ∧ d.natAbs < 2 ^ 8500) ∨ (3 ≤ g ∧ u.natAbs < 2 ^ 50000 ∧ ∃ k : Int, 1 ≤ k ∧ k ≤ 13 ∧ (k * d).fmod g = 1)) ∧ ∀ (p : Addr) (H' : Hp), H p = none → Same H H' → H' p = some (.tup [.int (lowF g u d).1, .int (lowF g u d).2]) → Q (.ref p) H'

/-- a list of numbers -/
def RowL (H : Hp) (v : V) (r : List (Int × Int)) : Prop := ∃ p xs, v = .ref p ∧ H p = some (.lst xs) ∧ xs.length = r.length ∧ ∀ (i : Nat) (x : V) (a : Int × Int), xs[i]? = some x → r[i]? = some a → NumV H x a
def sp_whole_row (K : PySem.W.Frag) : Sp := fun vs H Q _ => ∃ (v : V) (r : List (Int × Int)) (g : Int) (k b : Nat), vs = [v] ∧ (RowV H v r ∨ RowL H v r) ∧ (∀ x ∈ r, OkN g k x) ∧ 0 < k ∧ (∀ i, (wrB (r.take i)).natAbs ≤ 2 ^ b) ∧ b ≤ 8000 ∧ k ≤ 8000 ∧ r.length ≤ 100 ∧ ∀ (p L : Addr) (H' : Hp), Same H H' → H L = none → H' p = some (.tup [.ref L, .int (wrB r)]) → H' L = some (.lst ((wrT r).map V.int)) → Q (.ref p) H'
theorem whole_row_old {K : PySem.W.Frag} {vs : List V} {H : Hp} {Q : VK} {E : XK} (h : ∃ (v : V) (r : List (Int × Int)) (g : Int) (k : Nat), vs = [v] ∧ (RowV H v r ∨ RowL H v r) ∧ (∀ x ∈ r, OkN g k x) ∧ 0 < k ∧ k * r.length ≤ 8000 ∧ k ≤ 8000 ∧ r.length ≤ 100 ∧ ∀ (p L : Addr) (H' : Hp), Same H H' → H L = none → H' p = some (.tup [.ref L, .int (wrB r)]) → H' L = some (.lst ((wrT r).map V.int)) → Q (.ref p) H') : sp_whole_row K vs H Q E := by
  obtain ⟨v, r, g, k, e, hv, hok, hk0, hkl, hk, hlr, q⟩ := h
  refine ⟨v, r, g, k, k * r.length, e, hv, hok, hk0, fun i => ?_, hkl, hk, hlr, q⟩
  have hpos : ∀ x ∈ r, 0 < x.2 := fun x h => (hok x h).pos
  have hsub : ∀ x ∈ r.take i, x ∈ r := fun x h => List.mem_of_mem_take h
  refine Nat.le_trans (wrB_bd (k := k) fun x h => ⟨hpos x (hsub x h), (hok x (hsub x h)).2.1⟩) ?_
  refine Nat.pow_le_pow_right (by decide) (Nat.mul_le_mul_left k ?_)
  rw [List.length_take]
  exact Nat.min_le_right _ _

def sp_whole_determinant (K : PySem.W.Frag) : Sp := fun vs H Q _ => ∃ (v : V) (rows : List (List Int)) (n A k : Nat), vs = [v] ∧ ILs H v rows ∧ rows.length = n ∧ 1 ≤ n ∧ n ≤ 20 ∧ (∀ r ∈ rows, r.length = n ∧ ∀ x, (gt r x).natAbs ≤ A) ∧ 1 ≤ A ∧ (n * A) ^ n < 2 ^ k ∧ 0 < k ∧ k ≤ 8000 ∧ ∀ H', Same H H' → Q (.int (dt rows (List.range n))) H'

def sp_show_row (K : PySem.W.Frag) : Sp := fun vs H Q _ => ∃ (v : V) (r : List (Int × Int)), vs = [v] ∧ RowV H v r ∧ (∀ a ∈ r, Sm a) ∧ r.length ≤ 10 ∧ ∀ H', Same H H' → Q (.str (rowT r)) H'

def sp_number_part (K : PySem.W.Frag) : Sp := fun vs H Q _ => ∃ (w : Str), vs = [.str w] ∧ w.length ≤ 1000000 ∧ SmW w ∧ ∀ (v : V) (H' : Hp), Same H H' → OpV H' v (partN w) → Q v H'

def sp__law_low (K : PySem.W.Frag) : Sp := fun vs H Q _ => ∃ (g u d : Int), vs = [.int g, .int u, .int d] ∧ 0 ≤ g ∧ g ≤ 13 ∧ d ≠ 0 ∧ d.natAbs < 2 ^ 8000 ∧ ∀ (p : Addr) (H' : Hp), H p = none → Same H H' → H' p = some (.tup [.int (lowF g u d).1, .int (lowF g u d).2]) → Q (.ref p) H'
theorem lowI_some {g u d : Int} {i : Nat} (hi : i < g.toNat) (h : ((i : Int) * d).fmod g = u.fmod g) (hn : ∀ j : Nat, j < i → ¬ ((j : Int) * d).fmod g = u.fmod g) : lowI g u d = some i := by
  unfold lowI
  rw [if_pos (by omega)]
  refine List.find?_range_eq_some.mpr ⟨decide_eq_true h, List.mem_range.mpr hi, fun j hj => ?_⟩
  rw [decide_eq_false (hn j hj)]
  rfl
theorem lowI_none {g u d : Int} (hn : ∀ j : Nat, j < g.toNat → ¬ ((j : Int) * d).fmod g = u.fmod g) : lowI g u d = none := by
  unfold lowI
  split
  · refine List.find?_range_eq_none.mpr fun j hj => ?_
    rw [decide_eq_false (hn j hj)]
    rfl
  · rfl
theorem low_sign (d : Int) : atI [V.int 1, V.int (-1)] (if decide (d < 0) = true then 1 else 0) = some (.int (if d < 0 then -1 else 1)) := by
  by_cases h : d < 0
  · rw [decide_eq_true h, if_pos h]; rfl
  · rw [decide_eq_false h, if_neg h]; rfl
theorem low_cb {u d : Int} (hd : d ≠ 0) (hz : d.natAbs < 2 ^ 8000) (i : Int) : CDivZ i ((Int.gcd u d : Int) * (if d < 0 then -1 else 1)) :=
  divZ_of (b := 8000) (lowC_ne hd) (Nat.lt_of_le_of_lt (lowC_le hd) hz) (by decide) (by decide)

def Gr (g : Int) : Prop := g = 0 ∨ g = 3 ∨ g = 5 ∨ g = 7 ∨ g = 11 ∨ g = 13
def sp__law_ground (K : PySem.W.Frag) : Sp := fun vs H Q _ => ∃ (b : Addr), vs = [.ref b] ∧ Bag H b ∧ ∀ (H' : Hp) (g : Int), Gr g → Mv b H H' → Bag H' b → Q (.int g) H'
theorem gr_three {i : Int} (h0 : 0 ≤ i) (h3 : i < 3) : ∃ m : Int, atI [V.int 7, V.int 11, V.int 13] i = some (.int m) ∧ Gr m := by
  rcases (by omega : i = 0 ∨ i = 1 ∨ i = 2) with rfl | rfl | rfl <;> exact ⟨_, rfl, by unfold Gr; decide⟩
theorem gr_eight {i m : Int} (h0 : 0 ≤ i) (h8 : i < 8) (hm : Gr m) : ∃ g : Int, atI [V.int 0, V.int 0, V.int 0, V.int 0, V.int 3, V.int 3, V.int 5, V.int m] i = some (.int g) ∧ Gr g := by
  rcases (by omega : i = 0 ∨ i = 1 ∨ i = 2 ∨ i = 3 ∨ i = 4 ∨ i = 5 ∨ i = 6 ∨ i = 7) with rfl | rfl | rfl | rfl | rfl | rfl | rfl | rfl
  · exact ⟨_, rfl, by unfold Gr; decide⟩
  · exact ⟨_, rfl, by unfold Gr; decide⟩
  · exact ⟨_, rfl, by unfold Gr; decide⟩
  · exact ⟨_, rfl, by unfold Gr; decide⟩
  · exact ⟨_, rfl, by unfold Gr; decide⟩
  · exact ⟨_, rfl, by unfold Gr; decide⟩
  · exact ⟨_, rfl, by unfold Gr; decide⟩
  · exact ⟨_, rfl, hm⟩

def sp__law_letters (K : PySem.W.Frag) : Sp := fun vs H Q _ => ∃ (b : Addr) (g : Int), vs = [.ref b, .int g] ∧ Gr g ∧ Bag H b ∧ ∀ (H' : Hp) (m : Nat), 1 ≤ m → m ≤ 5 → (g ≠ 0 → m ≤ 4) → Mv b H H' → Bag H' b → Q (.int (m : Int)) H'
theorem rep_one {u : V} (m : Nat) : (List.replicate m [u]).flatten = List.replicate m u := by
  induction m with
  | zero => rfl
  | succ m ih => rw [List.replicate_succ, List.flatten_cons, ih, List.replicate_succ]; rfl
theorem row_zeros {H : Hp} {u l : Addr} {m : Nat} (hu : H u = some (.tup [.int 0, .int 1])) (hl : H l = some (.tup (List.replicate m [V.ref u]).flatten)) : RowV H (.ref l) (List.replicate m (0, 1)) := by
  rw [rep_one] at hl
  refine ⟨l, _, rfl, hl, by rw [List.length_replicate, List.length_replicate], fun i x a h1 h2 => ?_⟩
  have e1 := List.eq_of_mem_replicate (List.mem_of_getElem? h1)
  have e2 := List.eq_of_mem_replicate (List.mem_of_getElem? h2)
  subst e1 e2
  exact ⟨u, rfl, hu⟩
theorem pick_let {i e : Int} (h0 : 0 ≤ i) (h8 : i < 8) (he : e = 4 ∨ e = 5) : ∃ m : Nat, atI [V.int 1, V.int 2, V.int 2, V.int 3, V.int 3, V.int 3, V.int 4, V.int e] i = some (.int (m : Int)) ∧ 1 ≤ m ∧ ((m : Int) = e ∨ m ≤ 4) := by
  rcases (by omega : i = 0 ∨ i = 1 ∨ i = 2 ∨ i = 3 ∨ i = 4 ∨ i = 5 ∨ i = 6 ∨ i = 7) with rfl | rfl | rfl | rfl | rfl | rfl | rfl | rfl
  · exact ⟨1, rfl, by decide, .inr (by decide)⟩
  · exact ⟨2, rfl, by decide, .inr (by decide)⟩
  · exact ⟨2, rfl, by decide, .inr (by decide)⟩
  · exact ⟨3, rfl, by decide, .inr (by decide)⟩
  · exact ⟨3, rfl, by decide, .inr (by decide)⟩
  · exact ⟨3, rfl, by decide, .inr (by decide)⟩
  · exact ⟨4, rfl, by decide, .inr (by decide)⟩
  · rcases he with rfl | rfl
    · exact ⟨4, rfl, by decide, .inl rfl⟩
    · exact ⟨5, rfl, by decide, .inl rfl⟩

def sp__law_row_text (K : PySem.W.Frag) : Sp := fun vs H Q _ => ∃ (v : V) (r : List (Int × Int)), vs = [v] ∧ RowV H v r ∧ (∀ a ∈ r, Sm a) ∧ r.length ≤ 10 ∧ ∀ H', Same H H' → Q (.str (rowT r)) H'

def sp_is_row (K : PySem.W.Frag) : Sp := fun vs H Q _ => ∃ (g : Int) (v : V) (m : Int) (kb nb : Nat), vs = [.int g, v, .int m] ∧ TB kb (nb + 2) H v ∧ ∀ H', Same H H' → Q (.bl (rowOf H g m v)) H'

def sp_determinant (K : PySem.W.Frag) : Sp := fun vs H Q _ => ∃ (g : Int) (v : V) (t : List (List (Int × Int))) (n k kb A : Nat) (F : Type) (R : Lean.Grind.CommRing F) (W : GV g F), vs = [.int g, v] ∧ (g = 0 ∨ Gr5 g) ∧ TabV H v t ∧ t.length = n ∧ (∀ r ∈ t, r.length = n ∧ ∀ a ∈ r, TN g kb a) ∧ 1 ≤ n ∧ n ≤ 20 ∧ 0 < kb ∧ kb * n ≤ 8000 ∧ kb ≤ 8000 ∧
  (∀ r ∈ t, (wrB r).natAbs ≤ A ∧ ∀ y ∈ wrT r, y.natAbs ≤ A) ∧ 1 ≤ A ∧ (n * A) ^ n < 2 ^ k ∧ 4 ≤ k ∧ k ≤ 8000 ∧
  ∀ (v' : V) (H' : Hp) (d : Int × Int), Same H H' → NumV H' v' d → TN g k d → W.e d = dC (t.map (er W)) (List.range n) → Q v' H'

def sp_show_table (K : PySem.W.Frag) : Sp := fun vs H Q _ => ∃ (v : V) (t : List (List (Int × Int))), vs = [v] ∧ TabV H v t ∧ (∀ r ∈ t, (∀ a ∈ r, Sm a) ∧ r.length ≤ 10) ∧ t.length ≤ 10 ∧ ∀ H', Same H H' → Q (.str (tabT t)) H'

def sp_row_parts (K : PySem.W.Frag) : Sp := fun vs H Q _ => ∃ (s : Str), vs = [.str s] ∧ s.length ≤ 600000 ∧ (∀ w ∈ Txt.split s (Str.ofString " "), SmW w) ∧ ∀ (v : V) (H' : Hp), Same H H' → SqV OpV H' v (rowN s) → Q v H'

def sp__law_plus (K : PySem.W.Frag) : Sp := fun vs H Q _ => ∃ (g : Int) (x y : V) (a c : Int × Int), vs = [.int g, x, y] ∧ 0 ≤ g ∧ g ≤ 13 ∧ NumV H x a ∧ NumV H y c ∧ PBe a ∧ PBe c ∧ ∀ (p : Addr) (H' : Hp), H p = none → Same H H' → H' p = some (.tup [.int (plusF g a c).1, .int (plusF g a c).2]) → Q (.ref p) H'

def sp__law_times (K : PySem.W.Frag) : Sp := fun vs H Q _ => ∃ (g : Int) (x y : V) (a c : Int × Int), vs = [.int g, x, y] ∧ 0 ≤ g ∧ g ≤ 13 ∧ NumV H x a ∧ NumV H y c ∧ PBe a ∧ PBe c ∧ ∀ (p : Addr) (H' : Hp), H p = none → Same H H' → H' p = some (.tup [.int (timesF g a c).1, .int (timesF g a c).2]) → Q (.ref p) H'

def sp__law_minus (K : PySem.W.Frag) : Sp := fun vs H Q _ => ∃ (g : Int) (x : V) (a : Int × Int), vs = [.int g, x] ∧ 0 ≤ g ∧ g ≤ 13 ∧ NumV H x a ∧ a.2.natAbs < 2 ^ 8000 ∧ a.2 ≠ 0 ∧ ∀ (p : Addr) (H' : Hp), H p = none → Same H H' → H' p = some (.tup [.int (minusF g a).1, .int (minusF g a).2]) → Q (.ref p) H'

def sp__law_number (K : PySem.W.Frag) : Sp := fun vs H Q _ => ∃ (b : Addr) (g : Int), vs = [.ref b, .int g] ∧ Gr g ∧ Bag H b ∧ ∀ (H' : Hp) (v : V) (a : Int × Int), NumV H' v a → NG g 0 a → TN g 7 a → Mv b H H' → Bag H' b → Q v H'
theorem nu_six {i : Int} (h0 : 0 ≤ i) (h6 : i < 6) : ∃ m : Int, atI [V.int 3, V.int 5, V.int 5, V.int 9, V.int 19, V.int 99] i = some (.int m) ∧ 3 ≤ m ∧ m ≤ 99 := by
  rcases (by omega : i = 0 ∨ i = 1 ∨ i = 2 ∨ i = 3 ∨ i = 4 ∨ i = 5) with rfl | rfl | rfl | rfl | rfl | rfl <;> exact ⟨_, rfl, by decide, by decide⟩
theorem nu_four {i d : Int} (h0 : 0 ≤ i) (h4 : i < 4) (d0 : 0 ≤ d) (d8 : d < 8) : ∃ m : Int, atI [V.int 1, V.int 1, V.int 1, V.int (2 + d)] i = some (.int m) ∧ 1 ≤ m ∧ m ≤ 9 := by
  rcases (by omega : i = 0 ∨ i = 1 ∨ i = 2 ∨ i = 3) with rfl | rfl | rfl | rfl
  · exact ⟨_, rfl, by decide, by decide⟩
  · exact ⟨_, rfl, by decide, by decide⟩
  · exact ⟨_, rfl, by decide, by decide⟩
  · exact ⟨_, rfl, by omega, by omega⟩
theorem Gr.two {g : Int} (h : Gr g) : g = 0 ∨ Gr5 g := by
  unfold Gr at h
  unfold Gr5
  omega
theorem Gr.bd {g : Int} (h : Gr g) : 0 ≤ g ∧ g ≤ 13 := by
  unfold Gr at h
  omega
theorem Gr.three {g : Int} (h : Gr g) : g = 0 ∨ (3 ≤ g ∧ g ≤ 13) := by
  unfold Gr at h
  omega

def sp__law_table_text (K : PySem.W.Frag) : Sp := fun vs H Q _ => ∃ (v : V) (t : List (List (Int × Int))), vs = [v] ∧ TabV H v t ∧ (∀ r ∈ t, (∀ a ∈ r, Sm a) ∧ r.length ≤ 10) ∧ t.length ≤ 10 ∧ ∀ H', Same H H' → Q (.str (tabT t)) H'

def sp_is_table (K : PySem.W.Frag) : Sp := fun vs H Q _ => ∃ (g : Int) (v : V) (m w : Int) (kb nb : Nat), vs = [.int g, v, .int m, .int w] ∧ TB kb (nb + 3) H v ∧ ∀ H', Same H H' → Q (.bl (tabOf H g m w v)) H'

def sp_Form___str__ (K : PySem.W.Frag) : Sp := fun vs H Q _ => ∃ (g : Int) (f tv : V) (t : List (List (Int × Int))), vs = [f] ∧ FormV K H f g tv ∧ TabV H tv t ∧ (∀ r ∈ t, (∀ a ∈ r, Sm a) ∧ r.length ≤ 10) ∧ t.length ≤ 10 ∧ g.natAbs.log2 < 1920 ∧ ∀ (H' : Hp), Same H H' → Q (.str (formT g t)) H'

def sp_table_parts (K : PySem.W.Frag) : Sp := fun vs H Q _ => ∃ (s : Str), vs = [.str s] ∧ s.length ≤ 600000 ∧ (∀ p ∈ Txt.split s (Str.ofString " / "), ∀ w ∈ Txt.split p (Str.ofString " "), SmW w) ∧ ∀ (v : V) (H' : Hp), Same H H' → SqV (SqV OpV) H' v (tabN s) → Q v H'

def sp__law_scaled (K : PySem.W.Frag) : Sp := fun vs H Q _ => ∃ (g : Int) (x y : V) (r : List (Int × Int)) (c : Int × Int), vs = [.int g, x, y] ∧ 0 ≤ g ∧ g ≤ 13 ∧ RowV H x r ∧ NumV H y c ∧ r.length ≤ 100 ∧ (∀ a ∈ r, PBe a) ∧ PBe c ∧ ∀ (v : V) (H' : Hp), Same H H' → RowV H' v (r.map fun a => timesF g a c) → Q v H'

def sp__law_added (K : PySem.W.Frag) : Sp := fun vs H Q _ => ∃ (g : Int) (x y : V) (r s : List (Int × Int)), vs = [.int g, x, y] ∧ 0 ≤ g ∧ g ≤ 13 ∧ RowV H x r ∧ RowV H y s ∧ r.length = s.length ∧ r.length ≤ 100 ∧ (∀ a ∈ r, PBe a) ∧ (∀ a ∈ s, PBe a) ∧ ∀ (v : V) (H' : Hp), Same H H' → RowV H' v (List.zipWith (plusF g) r s) → Q v H'

def sp__law_other_than_nought (K : PySem.W.Frag) : Sp := fun vs H Q _ => ∃ (b : Addr) (g : Int), vs = [.ref b, .int g] ∧ Gr g ∧ Bag H b ∧ ∀ (H' : Hp) (v : V) (a : Int × Int), NumV H' v a → NG g 0 a → TN g 7 a → a.1 ≠ 0 → Mv b H H' → Bag H' b → Q v H'
theorem pick_two {b : Bool} {x y : V} : atI [x, y] (if b = true then 1 else 0) = some (if b = true then y else x) := by
  cases b <;> rfl

def sp__law_form_text (K : PySem.W.Frag) : Sp := fun vs H Q _ => ∃ (g : Int) (tv : V) (t : List (List (Int × Int))), vs = [.int g, tv] ∧ TabV H tv t ∧ (∀ r ∈ t, (∀ a ∈ r, Sm a) ∧ r.length ≤ 10) ∧ t.length ≤ 10 ∧ 0 ≤ g ∧ g.natAbs.log2 < 1920 ∧ ∀ (H' : Hp), Same H H' → Q (.str (formT g t)) H'

def sp_is_form_table (K : PySem.W.Frag) : Sp := fun vs H Q _ => ∃ (g : Int) (v : V) (t : List (List (Int × Int))) (m : Nat) (D : Int) (M a : Nat) (F : Type) (R : Lean.Grind.CommRing F) (W : GV g F), vs = [.int g, v] ∧ (g = 0 ∨ Gr5 g) ∧ TabV H v t ∧ FrmT W D M m t ∧ 1 ≤ m ∧ m ≤ 5 ∧ (g ≠ 0 → m ≤ 4) ∧ D ≠ 0 ∧ D.natAbs ≤ 2 ^ a ∧ M ≤ 2 ^ a ∧ 4 ≤ a ∧ a ≤ 800 ∧ ∀ H', Same H H' → Q (.bl true) H'
theorem ift_sz {m a : Nat} (hm : m ≤ 5) (ha : a ≤ 800) : (m * 2 ^ a) ^ m < 2 ^ 4200 := by
  have h1 : m * 2 ^ a ≤ 2 ^ (3 + a) := pw_mul (pw_five hm).1 (Nat.le_refl _)
  have h2 : (m * 2 ^ a) ^ m ≤ (2 ^ (3 + a)) ^ m := Nat.pow_le_pow_left h1 m
  rw [← Nat.pow_mul] at h2
  refine Nat.lt_of_le_of_lt h2 (Nat.pow_lt_pow_right (by decide) ?_)
  have : (3 + a) * m ≤ 803 * 5 := Nat.mul_le_mul (by omega) hm
  omega

def sp__law_through (K : PySem.W.Frag) : Sp := fun vs H Q _ => ∃ (g : Int) (x y : V) (r : List (Int × Int)) (t : List (List (Int × Int))) (n m : Nat) (Dr Dt : Int) (Mr Mt k : Nat) (F : Type) (R : Lean.Grind.CommRing F) (W : GV g F), vs = [.int g, x, y] ∧ (g = 0 ∨ Gr5 g) ∧ RowV H x r ∧ TabV H y t ∧ RZ g Dr Mr m r ∧ t.length = m ∧ 1 ≤ m ∧ m ≤ 20 ∧ n ≤ 20 ∧ (∀ s ∈ t, RZ g Dt Mt n s) ∧ Dr ≠ 0 ∧ Dt ≠ 0 ∧ (Dt * Dr).natAbs < 2 ^ k ∧ Mr < 2 ^ k ∧ Mt < 2 ^ k ∧ (m + 1) * (Mt * Mr) < 2 ^ k ∧ 4 ≤ k ∧ k ≤ 3900 ∧
  ∀ (v : V) (H' : Hp) (w : List (Int × Int)), Same H H' → RowV H' v w → RZ g (Dt * Dr) (m * (Mt * Mr)) n w → er W w = thr (t.map (er W)) (er W r) → Q v H'

def sp__law_wide_form (K : PySem.W.Frag) : Sp := fun vs H Q _ => ∃ (b : Addr) (g : Int) (tv : V) (t : List (List (Int × Int))) (m : Nat) (F : Type) (R : Lean.Grind.CommRing F) (W : GV g F), vs = [.ref b, .int g, tv] ∧ Gr g ∧ Bag H b ∧ TabV H tv t ∧ FrmT W 2520 16128000000000 m t ∧ 1 ≤ m ∧ m ≤ 5 ∧
  ∀ (H' : Hp) (v : V) (T : List (List (Int × Int))) (D : Int) (M : Nat), TabV H' v T → FrmT W D M m T → D ≠ 0 → D.natAbs ≤ 2 ^ 300 → M ≤ 2 ^ 300 → Mv b H H' → Bag H' b → Q v H'
theorem far_four {i : Int} (h0 : 0 ≤ i) (h4 : i < 4) : ∃ m : Int, atI [V.int 1, V.int (10 ^ (9 : Int).toNat), V.int (10 ^ (20 : Int).toNat), V.int (10 ^ (60 : Int).toNat)] i = some (.int m) ∧ 1 ≤ m ∧ m ≤ 10 ^ 60 := by
  rcases (by omega : i = 0 ∨ i = 1 ∨ i = 2 ∨ i = 3) with rfl | rfl | rfl | rfl <;> exact ⟨_, rfl, by decide, by decide⟩
theorem far_bd {d f : Int} (d0 : 0 ≤ d) (d1 : d < 10 ^ 9) (f0 : 1 ≤ f) (f1 : f ≤ 10 ^ 60) : 0 ≤ d * f ∧ d * f < 2 ^ 230 := by
  refine ⟨Int.mul_nonneg d0 (by omega), ?_⟩
  have h := Int.mul_le_mul (show d ≤ 10 ^ 9 by omega) f1 (by omega) (by decide)
  exact Int.lt_of_le_of_lt h (by decide)
theorem far_mul {d f : Int} (d0 : 0 ≤ d) (d1 : d < 10 ^ 9) (f0 : 1 ≤ f) (f1 : f ≤ 10 ^ 60) : CMulW d f := by
  have a : d.natAbs.log2 < 40 := PySem.Flt.log2_lt_of (by decide) (show d.natAbs < 2 ^ 40 by omega)
  have b : f.natAbs.log2 < 200 := PySem.Flt.log2_lt_of (by decide) (Nat.lt_of_le_of_lt (show f.natAbs ≤ 10 ^ 60 by omega) (by decide))
  show _ + _ < 1000000
  omega

def sp_Form___init__ (K : PySem.W.Frag) : Sp := fun vs H Q _ => ∃ (x dx : Addr) (tv : V) (g : Int) (t : List (List (Int × Int))) (m : Nat) (D : Int) (M a : Nat) (F : Type) (R : Lean.Grind.CommRing F) (W : GV g F), vs = [.ref x, tv, .int g] ∧ H x = some (.ins (He.ga K "Form") dx []) ∧ (g = 0 ∨ Gr5 g) ∧ TabV H tv t ∧ FrmT W D M m t ∧ 1 ≤ m ∧ m ≤ 5 ∧ (g ≠ 0 → m ≤ 4) ∧ D ≠ 0 ∧ D.natAbs ≤ 2 ^ a ∧ M ≤ 2 ^ a ∧ 4 ≤ a ∧ a ≤ 800 ∧
  ∀ H', (∀ b o, b ≠ x → H b = some o → H' b = some o) → H' x = some (.ins (He.ga K "Form") dx [("table", tv), ("ground", .int g)]) → Q .non H'
theorem form_mk {K : PySem.W.Frag} {H : Hp} {Q : Addr → Hp → Prop} {E : XK} {tv : V} {g : Int} {t : List (List (Int × Int))} {m : Nat} {D : Int} {M a : Nat} {F : Type} {R : Lean.Grind.CommRing F} {W : GV g F} (hg : g = 0 ∨ Gr5 g) (ht : TabV H tv t) (hf : FrmT W D M m t) (hm1 : 1 ≤ m) (hm : m ≤ 5) (hmw : g ≠ 0 → m ≤ 4) (hD0 : D ≠ 0) (hD : D.natAbs ≤ 2 ^ a) (hM : M ≤ 2 ^ a) (ha4 : 4 ≤ a) (ha : a ≤ 800)
    (q : ∀ (f : Addr) (H' : Hp), Same H H' → FormV K H' (.ref f) g tv → Q f H') :
    ∀ x dx, H x = none → H dx = none → dx ≠ x → sp_Form___init__ K [.ref x, tv, .int g] (upd (upd H dx (.own x)) x (.ins (He.ga K "Form") dx [])) (fun v H2 => v = .non ∧ Q x H2) E := fun x dx hx hdx hne =>
  ⟨x, dx, tv, g, t, m, D, M, a, F, R, W, rfl, upd_same, hg, TabV.kt ht (Kt.of (made_same0 hx hdx)), hf, hm1, hm, hmw, hD0, hD, hM, ha4, ha, fun H' k1 k2 => ⟨rfl, q _ _ (made_same hx hdx k1) ⟨x, dx, rfl, k2⟩⟩⟩

def sp__law_product (K : PySem.W.Frag) : Sp := fun vs H Q _ => ∃ (g : Int) (x y : V) (s t : List (List (Int × Int))) (n m : Nat) (Dr Dt : Int) (Mr Mt k : Nat) (F : Type) (R : Lean.Grind.CommRing F) (W : GV g F), vs = [.int g, x, y] ∧ (g = 0 ∨ Gr5 g) ∧ TabV H x s ∧ TabV H y t ∧ (∀ r ∈ s, RZ g Dr Mr m r) ∧ s.length ≤ 20 ∧ t.length = m ∧ 1 ≤ m ∧ m ≤ 20 ∧ n ≤ 20 ∧ (∀ s ∈ t, RZ g Dt Mt n s) ∧ Dr ≠ 0 ∧ Dt ≠ 0 ∧ (Dt * Dr).natAbs < 2 ^ k ∧ Mr < 2 ^ k ∧ Mt < 2 ^ k ∧ (m + 1) * (Mt * Mr) < 2 ^ k ∧ 4 ≤ k ∧ k ≤ 3900 ∧
  ∀ (v : V) (H' : Hp) (T : List (List (Int × Int))), Same H H' → TabV H' v T → T.length = s.length → (∀ r ∈ T, RZ g (Dt * Dr) (m * (Mt * Mr)) n r) → T.map (er W) = (s.map (er W)).map (thr (t.map (er W))) → Q v H'

theorem formT_ok {g : Int} {t : List (List (Int × Int))} (hs : ∀ r ∈ t, (∀ a ∈ r, Sm a) ∧ r.length ≤ 10) (hl : t.length ≤ 10) (hgl : g.natAbs.log2 < 1920) : (formT g t).length ≤ 510000 := by
  have lt := (tabT_ok hs hl).1
  have lg := (ok_int hgl).1
  have l4 : (Str.ofString " by ").length = 4 := by decide
  unfold formT
  split
  · omega
  · rw [Str.length_append, Str.length_append]
    omega
def sp_Form___repr__ (K : PySem.W.Frag) : Sp := fun vs H Q _ => ∃ (g : Int) (x tv : V) (t : List (List (Int × Int))), vs = [x] ∧ FormV K H x g tv ∧ TabV H tv t ∧ (∀ r ∈ t, (∀ a ∈ r, Sm a) ∧ r.length ≤ 10) ∧ t.length ≤ 10 ∧ g.natAbs.log2 < 1920 ∧ ∀ (H' : Hp), Same H H' → Q (.str (Str.ofString "Form(" ++ formT g t ++ Str.ofString ")")) H'

def sp__law_changed (K : PySem.W.Frag) : Sp := fun vs H Q _ => ∃ (b : Addr) (g : Int) (x : V) (t : List (List (Int × Int))) (m : Nat) (F : Type) (R : Lean.Grind.CommRing F) (W : GV g F), vs = [.ref b, .int g, x] ∧ Gr g ∧ Bag H b ∧ TabV H x t ∧ FrmT W 2520 161280 m t ∧ 1 ≤ m ∧ m ≤ 5 ∧
  ∀ (H' : Hp) (v : V) (T : List (List (Int × Int))), TabV H' v T → FrmT W 2520 16128000000000 m T → Mv b H H' → Bag H' b → Q v H'
/-- a list of numbers that may be changed -/
def LRow (H : Hp) (v : V) (r : List (Int × Int)) : Prop := ∃ p xs, v = .ref p ∧ H p = some (.lst xs) ∧ Acc NumV H xs r r.length
theorem LRow.sm {H H' : Hp} {v : V} {r : List (Int × Int)} (h : LRow H v r) (s : Same H H') : LRow H' v r := by
  obtain ⟨p, xs, e, hp, ha⟩ := h
  exact ⟨p, xs, e, s _ _ hp, ha.mono fun x a h => NumV.kt h (Kt.of s)⟩
theorem LRow.upd {H : Hp} {v : V} {r : List (Int × Int)} {D : Addr} {xs ys : List V} (h : LRow H v r) (hD : H D = some (.lst xs)) (hn : v ≠ .ref D) : LRow (upd H D (.lst ys)) v r := by
  obtain ⟨p, zs, e, hp, ha⟩ := h
  refine ⟨p, zs, e, ?_, ha.mono fun x a h => NumV.kt h (Kt.updL hD)⟩
  rw [upd_ne (fun z => hn (by rw [e, z]))]
  exact hp
theorem pick3 {i : Int} {x y z : V} (h0 : 0 ≤ i) (h3 : i < 3) : ∃ v, atI [x, y, z] i = some v ∧ (v = x ∨ v = y ∨ v = z) := by
  rcases (by omega : i = 0 ∨ i = 1 ∨ i = 2) with rfl | rfl | rfl
  · exact ⟨_, rfl, .inl rfl⟩
  · exact ⟨_, rfl, .inr (.inl rfl)⟩
  · exact ⟨_, rfl, .inr (.inr rfl)⟩
theorem ixN_nat {n j : Nat} (h : j < n) : ixN n (j : Int) = some j := by
  unfold ixN
  simp
  omega
theorem frm_mono {g : Int} {F : Type} [Lean.Grind.CommRing F] {W : GV g F} {D : Int} {M N m : Nat} {t : List (List (Int × Int))} (h : FrmT W D M m t) (hM : M ≤ N) : FrmT W D N m t := ⟨h.len, fun r hr => ⟨(h.row r hr).1, fun a ha => ((h.row r hr).2 a ha).mono hM⟩, h.sym, h.det⟩
theorem pow100 {i : Nat} (h : i ≤ 4) : 161280 * 100 ^ i ≤ 16128000000000 := by
  have : 100 ^ i ≤ 100 ^ 4 := Nat.pow_le_pow_right (by decide) h
  omega

/-- rows whose numbers are the program's own, short enough for a text -/
def TxT (g : Int) (m : Nat) (T : List (List (Int × Int))) : Prop := T.length = m ∧ ∃ k, k ≤ 1900 ∧ ∀ r ∈ T, r.length = m ∧ ∀ a ∈ r, TN g k a
theorem TN.sm19 {g : Int} {k : Nat} {a : Int × Int} (h : TN g k a) (hk : k ≤ 1900) : Sm a := by
  have lg : ∀ {n : Nat}, n < 2 ^ k → n.log2 < 1920 := fun {n} h => by
    rcases Nat.eq_zero_or_pos n with e | e
    · subst e; decide
    · exact Nat.lt_of_lt_of_le ((Nat.log2_lt (by omega)).mpr h) (by omega)
  exact ⟨lg h.2.1, lg h.2.2⟩
theorem TxT.good {g : Int} {m : Nat} {T : List (List (Int × Int))} (h : TxT g m T) (hm : 1 ≤ m) : T ≠ [] ∧ ∀ r ∈ T, r ≠ [] ∧ ∀ a ∈ r, FigN a ∧ Sm a := by
  obtain ⟨hl, k, hk, hr⟩ := h
  refine ⟨fun e => by rw [e] at hl; exact absurd hl (by show ¬ 0 = m; omega), fun r hr' => ⟨fun e => ?_, fun a ha => ?_⟩⟩
  · have := (hr r hr').1
    rw [e] at this
    exact absurd this (by show ¬ 0 = m; omega)
  · have ht := (hr r hr').2 a ha
    exact ⟨figN_of (ht.sm19 hk) (by have := ht.pos; omega), ht.sm19 hk⟩
theorem TxT.sm {g : Int} {m : Nat} {T : List (List (Int × Int))} (h : TxT g m T) (hm : m ≤ 5) : (∀ r ∈ T, (∀ a ∈ r, Sm a) ∧ r.length ≤ 10) ∧ T.length ≤ 10 := by
  obtain ⟨hl, k, hk, hr⟩ := h
  exact ⟨fun r hr' => ⟨fun a ha => ((hr r hr').2 a ha).sm19 hk, by rw [(hr r hr').1]; omega⟩, by omega⟩
theorem TxT.len {g : Int} {m : Nat} {T : List (List (Int × Int))} (h : TxT g m T) (hm : m ≤ 5) : (tabT T).length ≤ 600000 := Nat.le_trans (tabT_ok (h.sm hm).1 (h.sm hm).2).1 (by decide)
theorem formT_cut (g : Int) (t : List (List (Int × Int))) : Txt.partition (formT g t) (Str.ofString " by ") = (tabT t, if g = 0 then (Str.empty, Str.empty) else (Str.ofString " by ", Str.ofString (toString g))) := by
  unfold formT
  by_cases h : g = 0
  · rw [if_pos h, if_pos h]
    exact cut_no (c := 98) (S := [121, 32]) rfl (by decide) (by decide) (by decide) (by decide)
  · rw [if_neg h, if_neg h]
    exact cut_at (c := 98) (S := [121, 32]) rfl (by decide) (by decide) (by decide) (by decide)
theorem wheels_at {g : Int} (h : Gr5 g) : ((wheels.find? fun q => decide (q.1 = Str.ofString (toString g))).map fun q => V.int q.2).getD .non = .int g := by
  rcases h with rfl | rfl | rfl | rfl | rfl <;> decide +kernel
theorem formT_len {g : Int} {m : Nat} {t : List (List (Int × Int))} (h : TxT g m t) (hm : m ≤ 5) (hg : g = 0 ∨ Gr5 g) : (formT g t).length ≤ 700000 := Nat.le_trans (formT_ok (h.sm hm).1 (h.sm hm).2 (by rcases hg with rfl | rfl | rfl | rfl | rfl | rfl <;> decide)) (by decide)
def sp_form_or_none (K : PySem.W.Frag) : Sp := fun vs H Q _ => ∃ (g : Int) (t : List (List (Int × Int))) (m : Nat) (D : Int) (M a : Nat) (F : Type) (R : Lean.Grind.CommRing F) (W : GV g F), vs = [.str (formT g t)] ∧ (g = 0 ∨ Gr5 g) ∧ FrmT W D M m t ∧ 1 ≤ m ∧ m ≤ 5 ∧ (g ≠ 0 → m ≤ 4) ∧ D ≠ 0 ∧ D.natAbs ≤ 2 ^ a ∧ M ≤ 2 ^ a ∧ 4 ≤ a ∧ a ≤ 800 ∧ ∀ (f tv : V) (H' : Hp), Same H H' → FormV K H' f g tv → TabV H' tv t → Q f H'

def sp__law_form (K : PySem.W.Frag) : Sp := fun vs H Q _ => ∃ (b : Addr) (g : Int) (m : Nat) (F : Type) (R : Lean.Grind.CommRing F) (W : GV g F), vs = [.ref b, .int g, .int (m : Int)] ∧ Gr g ∧ Bag H b ∧ 1 ≤ m ∧ m ≤ 5 ∧
  ∀ (H' : Hp) (v : V) (T : List (List (Int × Int))), TabV H' v T → FrmT W 2520 16128000000000 m T → Mv b H H' → Bag H' b → Q v H'
theorem tz_oneW {g : Int} (hg : g = 0 ∨ Gr5 g) : TZ g 2520 161280 (1, 1) := by
  have := (TZ.one hg).wide 2520
  rw [show (1 : Int) * 2520 = 2520 from rfl] at this
  exact this.mono (by decide)
theorem tz_lackW {g : Int} (hg : g = 0 ∨ Gr5 g) : TZ g 2520 161280 (minusF g (1, 1)) := (tz_oneW hg).minus hg
theorem lack_ne {g : Int} (hg : g = 0 ∨ Gr5 g) : (minusF g (1, 1)).1 ≠ 0 := fun z => by
  obtain ⟨F', R, ⟨W⟩⟩ := gv_any hg
  have h1 := W.minus hg (tn_one hg)
  rw [W.one] at h1
  have h2 := (e_zero (V := W) hg (tn_minus hg (tn_one hg) (Nat.le_refl 4))).mpr z
  rw [h2] at h1
  exact W.ne (by grind)

def sp_read_form (K : PySem.W.Frag) : Sp := fun vs H Q _ => ∃ (g : Int) (t : List (List (Int × Int))) (m : Nat) (D : Int) (M a : Nat) (F : Type) (R : Lean.Grind.CommRing F) (W : GV g F), vs = [.str (formT g t)] ∧ (g = 0 ∨ Gr5 g) ∧ FrmT W D M m t ∧ 1 ≤ m ∧ m ≤ 5 ∧ (g ≠ 0 → m ≤ 4) ∧ D ≠ 0 ∧ D.natAbs ≤ 2 ^ a ∧ M ≤ 2 ^ a ∧ 4 ≤ a ∧ a ≤ 800 ∧ ∀ (f tv : V) (H' : Hp), Same H H' → FormV K H' f g tv → TabV H' tv t → Q f H'

theorem gr_log {g : Int} (hg : g = 0 ∨ Gr5 g) : 0 ≤ g ∧ g.natAbs.log2 < 1920 := by
  rcases hg with rfl | rfl | rfl | rfl | rfl | rfl <;> decide
def sp__law_is_told (K : PySem.W.Frag) : Sp := fun vs H Q _ => ∃ (g : Int) (fv tv tv' : V) (t : List (List (Int × Int))) (m : Nat) (D : Int) (M a : Nat) (F : Type) (R : Lean.Grind.CommRing F) (W : GV g F), vs = [.int g, tv, fv] ∧ (g = 0 ∨ Gr5 g) ∧ FormV K H fv g tv' ∧ TabV H tv t ∧ TabV H tv' t ∧ FrmT W D M m t ∧ 1 ≤ m ∧ m ≤ 5 ∧ (g ≠ 0 → m ≤ 4) ∧ D ≠ 0 ∧ D.natAbs ≤ 2 ^ a ∧ M ≤ 2 ^ a ∧ 4 ≤ a ∧ a ≤ 800 ∧ ∀ H', Same H H' → Q (.bl true) H'

/-- what is kept for the end: a ground, a form's table, the form -/
def AheadF (K : PySem.W.Frag) (H : Hp) (v : V) : Prop := ∃ (p : Addr) (g : Int) (tv fv tv' : V) (t : List (List (Int × Int))) (m : Nat) (D : Int) (M : Nat) (F : Type) (R : Lean.Grind.CommRing F) (W : GV g F), v = .ref p ∧ H p = some (.tup [.int g, tv, fv]) ∧ Gr g ∧ TabV H tv t ∧ FormV K H fv g tv' ∧ TabV H tv' t ∧ FrmT W D M m t ∧ 1 ≤ m ∧ m ≤ 5 ∧ (g ≠ 0 → m ≤ 4) ∧ D ≠ 0 ∧ D.natAbs ≤ 2 ^ 300 ∧ M ≤ 2 ^ 300
theorem AheadF.sm {K : PySem.W.Frag} {H H' : Hp} {v : V} (h : AheadF K H v) (s : Same H H') : AheadF K H' v := by
  obtain ⟨p, g, tv, fv, tv', t, m, D, M, F, R, W, e, hp, hg, h1, h4, h5, r⟩ := h
  exact ⟨p, g, tv, fv, tv', t, m, D, M, F, R, W, e, s _ _ hp, hg, TabV.kt h1 (Kt.of s), h4.sm s, TabV.kt h5 (Kt.of s), r⟩
theorem AheadF.updL {K : PySem.W.Frag} {H : Hp} {A : Addr} {zs ys : List V} {v : V} (h : AheadF K H v) (hA : H A = some (.lst zs)) : AheadF K (upd H A (.lst ys)) v := by
  obtain ⟨p, g, tv, fv, tv', t, m, D, M, F, R, W, e, hp, hg, h1, ⟨pf, df, ef, hpf⟩, h5, r⟩ := h
  have ne : ∀ {q : Addr} {o : HO}, H q = some o → (∀ xs, o ≠ .lst xs) → upd H A (.lst ys) q = some o := fun {q o} hq hn => by
    have : q ≠ A := fun e => by rw [e, hA] at hq; exact hn _ (Option.some.inj hq).symm
    rw [upd_ne this]
    exact hq
  have kt : Kt H (upd H A (.lst ys)) := Kt.updL hA
  exact ⟨p, g, tv, fv, tv', t, m, D, M, F, R, W, e, kt _ _ hp, hg, TabV.kt h1 kt, ⟨pf, df, ef, ne hpf fun _ z => by cases z⟩, TabV.kt h5 kt, r⟩
def sp_law (K : PySem.W.Frag) : Sp := fun vs H Q _ => ∃ (a : Addr) (ns : List Int), vs = [.ref a] ∧ SqL K H a (ns.map V.int) ∧ ∀ H', Q (.bl true) H'

theorem ok_is_whole {f : Addr} {fd : FuncData} (F : FnP K "is_whole" s_is_whole f fd) (m_isinstance : mg "isinstance" = none) (m_int : mg "int" = none) (m_bool : mg "bool" = none) :
    FnOk P w K mg base CX0 1 f fd ["thing"] (sp_is_whole K) := by
  refine F.ok sc_is_whole (fun vs H Q E h => ?_) (fun cdv A outer s H vs Q E hr h => ?_)
  · obtain ⟨v, rfl, hv, q⟩ := h
    rfl
  · obtain ⟨v, rfl, hv, q⟩ := h
    refine ⟨_, PSs.nox (pss_one (ps_ret (pe_and (pe_callB call_isi (by rfl) m_isinstance (by decide +kernel) (pa_cons (pv 0) (pa_cons (pe_bltn (v := .ty "int") (by rfl) m_int (by decide +kernel) rfl) pa_nil))) (pe_one (pe_not (pe_callB call_isi (by rfl) m_isinstance (by decide +kernel) (pa_cons (pv 0) (pa_cons (pe_bltn (v := .ty "bool") (by rfl) m_bool (by decide +kernel) rfl) pa_nil)))))))), ?_⟩
    have e := whole_eq v
    walk_at "go"
    refine tv_int hv ?_
    walk_at "go"
    refine w_iteB (fun hi => ?_) (fun hi => ?_)
    · walk_at "go"
      refine tv_bool hv ?_
      walk_at "go"
      rw [e, hi] at q
      exact q
    · rw [e, hi] at q
      exact q
theorem ok_common_divisor {f : Addr} {fd : FuncData} (F : FnP K "common_divisor" s_common_divisor f fd) (m_abs : mg "abs" = none) :
    FnOk P w K mg base CX0 1 f fd ["a", "b"] (sp_common_divisor K) := by
  refine F.ok sc_common_divisor (fun vs H Q E h => ?_) (fun cdv A outer s H vs Q E hr h => ?_)
  · obtain ⟨a, c, rfl, q⟩ := h
    rfl
  · obtain ⟨a, c, rfl, q⟩ := h
    refine ⟨_, PSs.nox (pss_cons (ps_while PassesOwn.never (pt_cmpR op_ne (pv 1) pe_int (nomark _)) (pss_one (ps_par (i := 0) (j := 1) (by rfl) sc_common_divisor.nd rfl rfl (by decide) rfl rfl (pa_cons (pv 1) (pa_cons (pe_op op_modN (pv 0) (pv 1)) pa_nil)) (by rfl))))
        (pss_one (ps_ret (pe_callB call_abs (by rfl) m_abs (by decide +kernel) (pa_cons (pv 0) pa_nil))))), ?_⟩
    walk_at "go"
    refine while_by (fun σ H' => ∃ x y : Int, σ = [some (.int x), some (.int y)] ∧ Int.gcd x y = Int.gcd a c ∧ H' = H) (fun σ _ => match σ with | [_, some (.int y)] => y.natAbs | _ => 0) ⟨a, c, rfl, rfl, rfl⟩ (fun σ H' hP => ?_) (fun σ H' Q1 Q2 f h => ?_)
    · obtain ⟨x, y, rfl, e, rfl⟩ := hP
      walk_at "go"
      refine w_iteN (fun hc => ?_) (fun hc => ?_)
      · walk_at "go"
        refine w_I hc ?_
        walk_at "go"
        exact ⟨⟨y, x.fmod y, rfl, by rw [gcd_fmod]; exact e, rfl⟩, fmod_small x hc⟩
      · walk_at "go"
        subst hc
        rw [Int.gcd_zero_right] at e
        rw [← e] at q
        have e2 : (if x < 0 then -x else x) = ((x.natAbs : Nat) : Int) := by split <;> omega
        rw [e2]
        exact q
    · obtain ⟨v, hv, e1, k, ek, qq⟩ := h
      exact ⟨v, hv, e1, k, ek, f _ _ qq⟩
theorem ok_wheel_back {f : Addr} {fd : FuncData} (F : FnP K "wheel_back" s_wheel_back f fd) :
    FnOk P w K mg base CX0 1 f fd ["wheel", "whole"] (sp_wheel_back K) := by
  refine F.ok sc_wheel_back (fun vs H Q E h => ?_) (fun cdv A outer s H vs Q E hr h => ?_)
  · obtain ⟨g, w, k, rfl, hg, hk1, hk, hw, q⟩ := h
    rfl
  · obtain ⟨g, w, k, rfl, hg, hk1, hk, hw, q⟩ := h
    refine ⟨_, PSs.nox (pss_cons (ps_set (i := 2) sc_wheel_back.nd rfl (.inl rfl) pe_int)
        (pss_cons (ps_while PassesOwn.never (pt_cmpR op_ne (pe_op op_modN (pe_op op_mul (pv 2) (pv 1)) (pv 0)) pe_int (nomark _)) (pss_one (ps_aug (i := 2) sc_wheel_back.nd rfl (.inl rfl) pe_int ip_add)))
        (pss_one (ps_ret (pv 2))))), ?_⟩
    walk_at "go"
    refine while_by (fun σ H' => ∃ f : Int, σ = [some (.int g), some (.int w), some (.int f)] ∧ 1 ≤ f ∧ f ≤ k ∧ H' = H) (fun σ _ => match σ with | [_, _, some (.int f)] => (k - f).toNat | _ => 0) ⟨1, rfl, by decide, hk1, rfl⟩ (fun σ H' hP => ?_) (fun σ H' Q1 Q2 f h => ?_)
    · obtain ⟨f, rfl, hf1, hf, rfl⟩ := hP
      walk_at "go"
      refine w_I (.inl ⟨by omega, by omega⟩) ?_
      walk_at "go"
      refine w_I (by omega) ?_
      walk_at "go"
      refine w_iteN (fun hc => ?_) (fun hc => ?_)
      · have hne : f ≠ k := fun e => hc (by rw [e]; exact hw)
        refine w_aug rfl ?_
        walk_at "go"
        refine ⟨f, 1, rfl, rfl, ⟨f + 1, rfl, by omega, by omega, rfl⟩, ?_⟩
        show (k - (f + 1)).toNat < (k - f).toNat
        omega
      · walk_at "go"
        exact q f hf1 (by omega) hc
    · obtain ⟨v1, h1, v2, h2, i, j, e1, e2, c1, v3, h3, i2, j2, e3, e4, c2, sc, b, eb, qq⟩ := h
      exact ⟨v1, h1, v2, h2, i, j, e1, e2, c1, v3, h3, i2, j2, e3, e4, c2, sc, b, eb, f _ _ qq⟩
theorem ok_show_number {f : Addr} {fd : FuncData} (F : FnP K "show_number" s_show_number f fd) (m_str : mg "str" = none) :
    FnOk P w K mg base CX0 1 f fd ["x"] (sp_show_number K) := by
  refine F.ok sc_show_number (fun vs H Q E h => ?_) (fun cdv A outer s H vs Q E hr h => ?_)
  · obtain ⟨v, a, rfl, hv, ha, q⟩ := h
    rfl
  · obtain ⟨v, a, rfl, hv, ha, q⟩ := h
    refine ⟨_, PSs.nox (pss_cons (ps_if (pt_cmpR op_eq (pe_ix ix_tup (pv 0) pe_int (fun _ _ => rfl)) pe_int (nomark _)) (pss_one (ps_ret (pe_callTy call_str_int (by rfl) m_str (by decide +kernel) (pa_cons (pe_ix ix_tup (pv 0) pe_int (fun _ _ => rfl)) pa_nil)))) pss_nil)
        (pss_one (ps_ret (pe_joined (.cons (pe_fmt (pe_ix ix_tup (pv 0) pe_int (fun _ _ => rfl))) (.cons pe_str (.cons (pe_fmt (pe_ix ix_tup (pv 0) pe_int (fun _ _ => rfl))) .nil))))))), ?_⟩
    obtain ⟨p, rfl, hp⟩ := hv
    walk_at "go"
    refine w_ite (fun hc => ?_) (fun hc => ?_)
    · walk_at "go"
      refine ⟨ha.1, ?_⟩
      have e : numT a = Str.ofString (toString a.1) := if_pos hc
      rw [e] at q
      exact q
    · walk_at "go"
      have e : numT a = Str.ofString (toString a.1) ++ ("/" : Str) ++ Str.ofString (toString a.2) := if_neg hc
      have l1 := (ok_int ha.1).1
      have l2 := (ok_int ha.2).1
      have l3 : ("/" : Str).length = 1 := by decide
      have z : (10000 : Nat) ≤ sizeLine := by decide
      walk_at "go"
      refine .inr ⟨_, rfl, ha.1, ?_⟩
      refine ⟨_, rfl, ?_, ?_⟩
      · rw [Str.length_append]; exact Nat.le_trans (by rw [show Str.empty.length = 0 from rfl]; omega) z
      walk_at "go"
      refine ⟨_, rfl, ?_, ?_⟩
      · rw [Str.length_append, Str.length_append]; exact Nat.le_trans (by rw [show Str.empty.length = 0 from rfl]; omega) z
      walk_at "go"
      refine .inr ⟨_, rfl, ha.2, ?_⟩
      refine ⟨_, rfl, ?_, ?_⟩
      · rw [Str.length_append, Str.length_append, Str.length_append]; exact Nat.le_trans (by rw [show Str.empty.length = 0 from rfl]; omega) z
      walk_at "go"
      rw [e] at q
      rw [Str.empty_append]
      exact q
theorem ok_turned {f : Addr} {fd : FuncData} (F : FnP K "turned" s_turned f fd) (m_tuple : mg "tuple" = none) (m_range : mg "range" = none) (m_len : mg "len" = none) :
    FnOk P w K mg base CX0 1 f fd ["table"] (sp_turned K) := by
  refine F.ok sc_turned (fun vs H Q E h => ?_) (fun cdv A outer s H vs Q E hr h => ?_)
  · obtain ⟨v, t, l, rfl, hv, ht0, ht, hl, hl10, q⟩ := h
    rfl
  · obtain ⟨v, t, l, rfl, hv, ht0, ht, hl, hl10, q⟩ := h
    refine ⟨_, PSs.nox (pss_one (ps_ret (pe_callTy call_tuple_of (by rfl) m_tuple (by decide +kernel) (pa_cons (pe_lc (own := [("at", 1)]) (g := gName 1) (tt := tYes) (by rfl) sc_turned.nd (pi_range1 (by rfl) m_range (pa_cons (pe_callB call_len_seq (by rfl) m_len (by decide +kernel) (pa_cons (pe_ix ix_tup (pv 0) pe_int (fun _ _ => rfl)) pa_nil)) pa_nil)) (blkOk_by (own := [("at", 1)]) (N := ["table", "at", "row"]) (sc := defScope s_turned) (by decide +kernel)) (fun _ _ _ _ _ => (pg_name (i := 1) sc_turned.nd rfl (.inr rfl))) (fun _ _ _ _ _ => pts_nil) (fun _ _ _ _ _ => (pe_callTy (r := rTupOf K) call_tupOf (by rfl) m_tuple (by decide +kernel) (pa_cons (pe_lc (own := [("row", 2)]) (g := gName 2) (tt := tYes) (wi := iTup K (tVar 0)) (by rfl) sc_turned.nd (pi_tup (pv 0)) (blkOk_by (own := [("row", 2)]) (N := ["table", "at", "row"]) (sc := ({ kind := PySem.ScopeKind.function, names := [ (PySem.Str.ofString ".0", PySem.NameKind.local), (PySem.Str.ofString "at", PySem.NameKind.cell), (PySem.Str.ofString "tuple", PySem.NameKind.globalImplicit), (PySem.Str.ofString "table", PySem.NameKind.cell)], isGenerator := false, isCoroutine := false, more := [] } : Scope)) (by decide +kernel)) (fun _ _ _ _ _ => (pg_name (i := 2) sc_turned.nd rfl (.inl rfl))) (fun _ _ _ _ _ => pts_nil) (fun _ _ _ _ _ => (pe_ix (r := rIxT K) ix_tup (pv 2) (pv 1) (fun _ _ => rfl)))) pa_nil)))) pa_nil)))), ?_⟩
    obtain ⟨p, xs, rfl, hp, hlx, hx⟩ := hv
    obtain ⟨x0, hx0⟩ : ∃ x0, xs[0]? = some x0 := ⟨_, List.getElem?_eq_getElem (by omega)⟩
    have ht00 : t[0]? = some t[0] := List.getElem?_eq_getElem ht0
    obtain ⟨p0, ns0, rfl, hp0, hl0, hn0⟩ := hx 0 x0 _ hx0 ht00
    have hl0' : ns0.length = l := by rw [hl0]; exact hl _ (List.getElem_mem ht0)
    walk_at "go"
    refine w_ixT hp (atI_nat (j := 0) hx0) ?_
    walk_at "go"
    refine ⟨p0, ns0, rfl, .inr (SqT.of hp0), ?_⟩
    walk_at "go"
    refine ⟨by omega, by omega, fun D hD => ?_⟩
    rw [hl0']
    refine lc_range (fun j H' => Same H H' ∧ ∃ ys, H' D = some (.lst ys) ∧ Acc RowV H' ys (turnF l t) j) ⟨Same.updD (Same.refl H) hD, [], upd_same, Acc.nil⟩ (fun j H' hj hP => ?_) (fun H' hP => ?_)
    · obtain ⟨sm, ys, hD', hacc⟩ := hP
      have hj' : j < l := hj
      have hp' := sm _ _ hp
      walk_at "go"
      refine ⟨rfl, ?_⟩
      walk_at "go"
      refine ⟨p, rfl, ⟨xs, SqT.of hp'⟩, fun D2 hD2 => ?_⟩
      have nD : D ≠ D2 := fresh_of hD' hD2
      refine lc_tup (xs := xs) (fun i H'' => Same H' H'' ∧ ∃ zs, H'' D2 = some (.lst zs) ∧ Acc NumV H'' zs (t.map fun row => row.getD j (0, 1)) i) ⟨Same.updD (Same.refl H') hD2, [], upd_same, Acc.nil⟩ (fun i H'' _ hP => SqT.of (hP.1 _ _ hp')) (fun i x H'' hxi hP => ?_) (fun H'' hP => ?_)
      · obtain ⟨sm2, zs, hD2', hacc2⟩ := hP
        have hi : i < t.length := by
          have := (List.getElem?_eq_some_iff.mp hxi).1
          omega
        have hti : t[i]? = some t[i] := List.getElem?_eq_getElem hi
        obtain ⟨pr, ns, rfl, hpr, hln, hns⟩ := hx i x _ hxi hti
        have hlr := hl _ (List.getElem_mem hi)
        obtain ⟨y, hy⟩ : ∃ y, ns[j]? = some y := ⟨_, List.getElem?_eq_getElem (by omega)⟩
        have htj : t[i][j]? = some (t[i].getD j (0, 1)) := by
          rw [List.getD_eq_getElem?_getD, List.getElem?_eq_getElem (by omega)]
          rfl
        have hn := hns j y _ hy htj
        have hpr' := sm2 _ _ (sm _ _ hpr)
        walk_at "go"
        refine ⟨rfl, ?_⟩
        walk_at "go"
        rw [Int.zero_add]
        refine w_ixT hpr' (atI_nat hy) ?_
        have kt : Kt H'' (upd H'' D2 (.lst (zs ++ [y]))) := Kt.updL hD2'
        refine ⟨zs, hD2', small1000 (by rw [hacc2.1]; omega), Same.updD sm2 hD2, _, upd_same, ?_⟩
        exact (hacc2.mono fun x a h => NumV.kt h kt).snoc (a := t[i].getD j (0, 1)) (by rw [List.getElem?_map, hti]; rfl) ((hn.kt (Kt.of (sm.trans sm2))).kt kt)
      · obtain ⟨sm2, zs, hD2', hacc2⟩ := hP
        walk_at "go"
        refine w_tupOf2 hD2' ?_
        refine w_newO fun q3 H3 hq3 s3 h3 => ?_
        have hD3 := s3 _ _ (sm2 _ _ hD')
        have kt : Kt H' (upd H3 D (.lst (ys ++ [V.ref q3]))) := (Kt.of (sm2.trans s3)).trans (Kt.updL hD3)
        refine ⟨ys, hD3, small1000 (by rw [hacc.1]; omega), Same.updD ((sm.trans sm2).trans s3) hD, _, upd_same, ?_⟩
        have hrow : RowV H3 (.ref q3) (t.map fun row => row.getD j (0, 1)) := (hacc2.mono fun x a h => NumV.kt h (Kt.of s3)).sq (by rw [List.length_map]; exact hlx) h3
        exact (hacc.mono fun x a h => RowV.kt h kt).snoc (turn_at hj') (RowV.kt hrow (Kt.updL hD3))
    · obtain ⟨sm, ys, hD', hacc⟩ := hP
      walk_at "go"
      refine ⟨_, _, rfl, .inl ⟨SqL.of hD', fun m hm => ?_⟩⟩
      exact q _ _ (sm.trans (same_upd hm)) ((hacc.mono fun x a h => RowV.kt h (Kt.of (same_upd hm))).sq (by unfold turnF; rw [List.length_map, List.length_range]; rfl) upd_same)
theorem ok_smaller_row {f : Addr} {fd : FuncData} (F : FnP K "smaller_row" s_smaller_row f fd) (m_range : mg "range" = none) (m_len : mg "len" = none) :
    FnOk P w K mg base CX0 1 f fd ["row", "head", "last"] (sp_smaller_row K) := by
  refine F.ok sc_smaller_row (fun vs H Q E h => ?_) (fun cdv A outer s H vs Q E hr h => ?_)
  · obtain ⟨vr, vh, r, h, last, b, rfl, hvr, hvh, hlh, hl0, hl, hbr, hbh, hln, hlb, hb0, hb, q⟩ := h
    rfl
  · obtain ⟨vr, vh, r, h, last, b, rfl, hvr, hvh, hlh, hl0, hl, hbr, hbh, hln, hlb, hb0, hb, q⟩ := h
    refine ⟨_, PSs.nox (pss_one (ps_ret (pe_lc (own := [("at", 3)]) (g := gName 3) (tt := tYes) (by rfl) sc_smaller_row.nd (pi_range2 (by rfl) m_range (pa_cons pe_int (pa_cons (pe_callB call_len_seq (by rfl) m_len (by decide +kernel) (pa_cons (pv 0) pa_nil)) pa_nil))) (blkOk_by (own := [("at", 3)]) (N := ["row", "head", "last", "at"]) (sc := defScope s_smaller_row) (by decide +kernel)) (fun _ _ _ _ _ => (pg_name (i := 3) sc_smaller_row.nd rfl (.inl rfl))) (fun _ _ _ _ _ => pts_nil) (fun _ _ _ _ _ => (pe_op op_fdivZ (pe_op op_sub (pe_op op_mulW (pe_ix (r := rIxL K) ix_list (pv 0) (pv 3) (fun _ _ => rfl)) (pe_ix (r := rIxL K) ix_list (pv 1) pe_int (fun _ _ => rfl))) (pe_op op_mulW (pe_ix (r := rIxL K) ix_list (pv 0) pe_int (fun _ _ => rfl)) (pe_ix (r := rIxL K) ix_list (pv 1) (pv 3) (fun _ _ => rfl)))) (pv 2)))))), ?_⟩
    obtain ⟨pr, rfl, hpr⟩ := hvr
    obtain ⟨ph, rfl, hph⟩ := hvh
    walk_at "go"
    refine ⟨pr, _, rfl, .inl (SqL.of hpr), ?_⟩
    rw [List.length_map]
    walk_at "go"
    refine ⟨⟨by omega, by omega, by omega, by omega⟩, fun D hD => ?_⟩
    refine lc_range (fun i H' => Same H H' ∧ H' D = some (.lst (((smF last h r).take i).map V.int))) ⟨Same.updD (Same.refl H) hD, upd_same⟩ (fun i H' hi hP => ?_) (fun H' hP => ?_)
    · obtain ⟨sm, hD'⟩ := hP
      have hi' : i + 1 < r.length := by omega
      have gi : atI (r.map V.int) (1 + (i : Int)) = some (.int (gt r (i + 1))) := by
        have := gt_int (r := r) (j := i + 1) hi'
        rw [show ((i + 1 : Nat) : Int) = 1 + (i : Int) by omega] at this
        exact this
      have gh : atI (h.map V.int) (1 + (i : Int)) = some (.int (gt h (i + 1))) := by
        have := gt_int (r := h) (j := i + 1) (by omega)
        rw [show ((i + 1 : Nat) : Int) = 1 + (i : Int) by omega] at this
        exact this
      have g0 := gt_int (r := r) (j := 0) (by omega)
      have h0 := gt_int (r := h) (j := 0) (by omega)
      have hpr' := sm _ _ hpr
      have hph' := sm _ _ hph
      walk_at "go"
      refine ⟨rfl, ?_⟩
      walk_at "go"
      refine w_ixL hpr' gi ?_
      walk_at "go"
      refine w_ixL hph' h0 ?_
      refine w_I (wide_mul (hbr _) (hbh _) hb0 hb0 (by omega)) ?_
      walk_at "go"
      refine w_ixL hpr' g0 ?_
      walk_at "go"
      refine w_ixL hph' gh ?_
      refine w_I (wide_mul (hbr _) (hbh _) hb0 hb0 (by omega)) ?_
      walk_at "go"
      refine w_I (divZ_of hln hlb hb0 (by omega)) ?_
      refine ⟨_, hD', ?_, Same.updD sm hD, ?_⟩
      · rw [List.length_map, List.length_take]
        exact small1000 (by omega)
      · have gz : (smF last h r)[i]? = some ((gt r (i + 1) * gt h 0 - gt r 0 * gt h (i + 1)).fdiv last) := by
          unfold smF
          rw [List.getElem?_map, List.getElem?_range (by omega)]
          rfl
        rw [upd_same, List.take_add_one, gz, List.map_append]
        rfl
    · obtain ⟨sm, hD'⟩ := hP
      rw [List.take_of_length_le (by unfold smF; rw [List.length_map, List.length_range]; omega)] at hD'
      walk_at "go"
      exact q D H' sm hD' hD
theorem ok_head_place {f : Addr} {fd : FuncData} (F : FnP K "head_place" s_head_place f fd) (m_range : mg "range" = none) (m_len : mg "len" = none) :
    FnOk P w K mg base CX0 1 f fd ["rows", "begin", "at"] (sp_head_place K) := by
  refine F.ok sc_head_place (fun vs H Q E h => ?_) (fun cdv A outer s H vs Q E hr h => ?_)
  · obtain ⟨v, rows, b, a, rfl, hv, ha, hl, hbl, q1, q2⟩ := h
    rfl
  · obtain ⟨v, rows, b, a, rfl, hv, ha, hl, hbl, q1, q2⟩ := h
    refine ⟨_, PSs.nox (pss_cons (ps_for PassesOwn.never rfl (pi_range2 (by rfl) m_range (pa_cons (pv 1) (pa_cons (pe_callB call_len_seq (by rfl) m_len (by decide +kernel) (pa_cons (pv 0) pa_nil)) pa_nil))) (pg_name (i := 3) sc_head_place.nd rfl (.inl rfl)) (pss_one (ps_if (pt_cmpR op_ne (pe_ix ix_list (pe_ix ix_list (pv 0) (pv 3) (fun _ _ => rfl)) (pv 2) (fun _ _ => rfl)) pe_int (nomark _)) (pss_one (ps_ret (pv 3))) pss_nil)))
        (pss_one (ps_ret pe_non))), ?_⟩
    obtain ⟨p, xs, rfl, hp, hacc⟩ := hv
    have hlx : xs.length = rows.length := hacc.1
    walk_at "go"
    refine ⟨p, xs, rfl, .inl (SqL.of hp), ?_⟩
    walk_at "go"
    refine ⟨⟨by omega, by omega, by omega, by omega⟩, ?_⟩
    refine for_range (fun i σ H' => H' = H ∧ (∃ y, σ = [some (.ref p), some (.int (b : Int)), some (.int (a : Int)), y]) ∧ ∀ (j : Nat) (r : List Int), b ≤ j → j < b + i → rows[j]? = some r → gt r a = 0) ⟨rfl, ⟨_, rfl⟩, fun j r h1 h2 => absurd h2 (by omega)⟩ (fun i σ H' hi hP => ?_) (fun σ H' hP => ?_)
    · obtain ⟨rfl, ⟨y, rfl⟩, hz⟩ := hP
      have hbi : b + i < rows.length := by omega
      have hri : rows[b + i]? = some rows[b + i] := List.getElem?_eq_getElem hbi
      have hxi : xs[b + i]? = some (xs[b + i]'(by omega)) := List.getElem?_eq_getElem _
      obtain ⟨pr, e1, hpr⟩ := hacc.2 _ _ _ hxi hri
      walk_at "go"
      have e2 : atI xs ((b : Int) + (i : Int)) = some (.ref pr) := by
        have := atI_nat hxi
        rw [e1, show ((b + i : Nat) : Int) = (b : Int) + (i : Int) by omega] at this
        exact this
      refine w_ixL hp e2 ?_
      walk_at "go"
      refine w_ixL hpr (gt_int (ha _ (List.getElem_mem hbi))) ?_
      walk_at "go"
      refine w_iteN (fun hc => ?_) (fun hc => ?_)
      · walk_at "go"
        have := q2 (b + i) _ (by omega) hri hc
        rw [show ((b + i : Nat) : Int) = (b : Int) + (i : Int) by omega] at this
        exact this
      · walk_at "go"
        refine ⟨rfl, ⟨_, rfl⟩, fun j r h1 h2 h3 => ?_⟩
        by_cases e : j = b + i
        · subst e
          rw [hri] at h3
          cases h3
          exact hc
        · exact hz j r h1 (by omega) h3
    · obtain ⟨rfl, ⟨y, rfl⟩, hz⟩ := hP
      walk_at "go"
      refine q1 fun i r h1 h2 => hz i r h1 ?_ h2
      have := (List.getElem?_eq_some_iff.mp h2).1
      omega
theorem ok_Form___eq__ {f : Addr} {fd : FuncData} (F : FunD K "__eq__" "Form.__eq__" (defArgs s_Form___eq__) (defBody s_Form___eq__) (defScope s_Form___eq__) [] [] f fd) (gi_Form : mg "Form" = some (.ref (He.ga K "Form"))) (IC_Form : C8.InsC K (He.ga K "Form")) (CF : FormC K) (m_isinstance : mg "isinstance" = none) :
    FnOk P w K mg base CX0 1 f fd ["self", "other"] (sp_Form___eq__ K) := by
  refine F.ok sc_Form___eq__ (fun vs H Q E h => ?_) (fun cdv A outer s H vs Q E hr h => ?_)
  · obtain ⟨a, b, g, h, tv, tw, t, s, rfl, hf, hf2, ht, hs, q⟩ := h
    rfl
  · obtain ⟨a, b, g, h, tv, tw, t, s, rfl, hf, hf2, ht, hs, q⟩ := h
    refine ⟨_, PSs.nox (pss_one (ps_ret (pe_and (pe_callB (C8.call_isC IC_Form) (by rfl) m_isinstance (by decide +kernel) (pa_cons (pv 1) (pa_cons (pe_glob (v := .ref (He.ga K "Form")) (by rfl) gi_Form rfl) pa_nil))) (pe_and (pe_cmpR op_eq (pe_fld (pv 0) rfl) (pe_fld (pv 1) rfl) (nomark _)) (pe_one (pe_cmpR (op_eqD hr.units) (pe_fld (pv 0) rfl) (pe_fld (pv 1) rfl) (nomark _))))))), ?_⟩
    obtain ⟨pb, dxb, eb, hpb⟩ := id hf2
    cases eb
    walk_at "go"
    refine ⟨b, dxb, _, rfl, hpb, ?_⟩
    walk_at "go"
    refine w_gnd CF hf ?_
    walk_at "go"
    refine w_gnd CF hf2 ?_
    walk_at "go"
    have h0 := q H (Same.refl H)
    refine w_ite (fun hc => ?_) (fun hc => ?_)
    · rw [decide_eq_true hc, Bool.true_and] at h0
      walk_at "go"
      refine w_tab CF hf ?_
      walk_at "go"
      refine w_tab CF hf2 ?_
      exact w_eqTabB ht hs h0
    · rw [decide_eq_false hc, Bool.false_and] at h0
      exact h0
theorem ok_Form___len__ {f : Addr} {fd : FuncData} (F : FunD K "__len__" "Form.__len__" (defArgs s_Form___len__) (defBody s_Form___len__) (defScope s_Form___len__) [] [] f fd) (CF : FormC K) (m_len : mg "len" = none) :
    FnOk P w K mg base CX0 1 f fd ["self"] (sp_Form___len__ K) := by
  refine F.ok sc_Form___len__ (fun vs H Q E h => ?_) (fun cdv A outer s H vs Q E hr h => ?_)
  · obtain ⟨x, tv, g, t, rfl, hf, ht, hl, q⟩ := h
    rfl
  · obtain ⟨x, tv, g, t, rfl, hf, ht, hl, q⟩ := h
    refine ⟨_, PSs.nox (pss_one (ps_ret (pe_callB call_len_seq (by rfl) m_len (by decide +kernel) (pa_cons (pe_fld (pv 0) rfl) pa_nil)))), ?_⟩
    obtain ⟨p, xs, rfl, hp, hlx, _⟩ := ht
    walk_at "go"
    refine w_tab CF hf ?_
    refine ⟨p, xs, rfl, .inr (SqT.of hp), ?_⟩
    rw [hlx]
    exact q
theorem ok_are_figures {f : Addr} {fd : FuncData} (F : FnP K "are_figures" s_are_figures f fd) {t_MOST_FIGURES : Tok} (mg_MOST_FIGURES : mg "MOST_FIGURES" = some (.int 600 t_MOST_FIGURES)) (m_len : mg "len" = none) :
    FnOk P w K mg base CX0 1 f fd ["text"] (sp_are_figures K) := by
  refine F.ok sc_are_figures (fun vs H Q E h => ?_) (fun cdv A outer s H vs Q E hr h => ?_)
  · obtain ⟨s, rfl, hs, q⟩ := h
    rfl
  · obtain ⟨s, rfl, hs, q⟩ := h
    refine ⟨_, PSs.nox (pss_one (ps_ret (pe_and (pe_cmpR op_le (pe_callB call_len_str (by rfl) m_len (by decide +kernel) (pa_cons (pv 0) pa_nil)) (pe_glob (v := .int 600) (by rfl) mg_MOST_FIGURES ⟨_, rfl⟩) (nomark _)) (pe_and (pe_m0 PySem.F.slot_str_isascii PySem.F.type_str_isascii mt_isascii (pv 0)) (pe_one (pe_m0 PySem.F.slot_str_isdigit PySem.F.type_str_isdigit mt_isdigit (pv 0))))))), ?_⟩
    have zl : (1000000 : Nat) ≤ sizeLine := by decide
    unfold figB at q
    walk_at "go"
    refine ⟨s, rfl, by omega, ?_⟩
    walk_at "go"
    have e : (decide ((s.length : Int) ≤ 600)) = decide (s.length ≤ 600) := by
      by_cases h : s.length ≤ 600
      · rw [decide_eq_true h, decide_eq_true (by omega)]
      · rw [decide_eq_false h, decide_eq_false (by omega)]
    rw [e]
    refine w_iteB (fun h => ?_) (fun h => ?_)
    · rw [h, Bool.true_and] at q
      walk_at "go"
      refine ⟨⟨_, rfl⟩, s, rfl, rfl, trivial, ?_⟩
      walk_at "go"
      cases ha : Txt.isascii s with
      | false =>
        rw [ha, Bool.false_and] at q
        exact w_iteB (fun h => absurd h (by decide)) (fun _ => q)
      | true =>
        rw [ha, Bool.true_and] at q
        refine w_iteB (fun _ => ?_) (fun h => absurd h (by decide))
        walk_at "go"
        exact ⟨⟨_, rfl⟩, s, rfl, rfl, trivial, q⟩
    · rw [h, Bool.false_and] at q
      exact q
theorem ok__law_bag {f : Addr} {fd : FuncData} (F : FnP K "_law_bag" s__law_bag f fd) (m_len : mg "len" = none) (m_abs : mg "abs" = none) :
    FnOk P w K mg base CX0 1 f fd ["_law_script", "_law_at"] (sp__law_bag K) := by
  refine F.ok sc__law_bag (fun vs H Q E h => ?_) (fun cdv A outer s H vs Q E hr h => ?_)
  · obtain ⟨a, ns, k, rfl, hS, hk0, hk, q⟩ := h
    rfl
  · obtain ⟨a, ns, k, rfl, hS, hk0, hk, q⟩ := h
    refine ⟨_, PSs.nox (pss_cons (ps_set (i := 2) sc__law_bag.nd rfl (.inl rfl) pe_int)
        (pss_cons (ps_if (pt_cmpR op_lt (pv 1) (pe_callB call_len_seq (by rfl) m_len (by decide +kernel) (pa_cons (pv 0) pa_nil)) (nomark _)) (pss_one (ps_set (i := 2) sc__law_bag.nd rfl (.inl rfl) (pe_ix ix_list (pv 0) (pv 1) (fun _ _ => rfl)))) pss_nil)
        (pss_cons (ps_set (i := 3) sc__law_bag.nd rfl (.inl rfl) pe_int)
        (pss_cons (ps_if (pt_cmpR op_ge (pe_callB call_abs (by rfl) m_abs (by decide +kernel) (pa_cons (pv 2) pa_nil)) (pe_op op_pow pe_int pe_int) (nomark _)) (pss_one (ps_set (i := 3) sc__law_bag.nd rfl (.inl rfl) (pe_callB call_abs (by rfl) m_abs (by decide +kernel) (pa_cons (pv 2) pa_nil)))) pss_nil)
        (pss_cons (ps_set (i := 4) sc__law_bag.nd rfl (.inl rfl) (pe_lst (pa_cons pe_int (pa_cons pe_int (pa_cons pe_int (pa_cons pe_int (pa_cons pe_int (pa_cons pe_int (pa_cons pe_int (pa_cons pe_int pa_nil))))))))))
        (pss_cons (ps_set (i := 5) sc__law_bag.nd rfl (.inl rfl) (pe_op op_add (pe_op op_add (pe_op op_add (pe_op op_mul (pe_op op_modN (pv 2) pe_int) pe_int) (pe_op op_mul (pe_op op_mul pe_int (pv 1)) (pv 1))) (pe_op op_mul pe_int (pv 1))) pe_int))
        (pss_one (ps_ret (pe_lst (pa_cons (pv 3) (pa_cons (pe_op op_modN (pv 5) (pe_ix ix_list (pv 4) (pe_op op_modN (pv 1) pe_int) (fun _ _ => rfl))) pa_nil))))))))))), ?_⟩
    walk_at "go"
    refine ⟨a, _, rfl, .inl hS, ?_⟩
    walk_at "go"
    refine w_ite (fun hc => ?a) (fun hc => ?b)
    case' a =>
      have hlt : k.toNat < ns.length := by
        rw [List.length_map] at hc
        omega
      obtain ⟨cl, hcl⟩ : ∃ cl, ns[k.toNat]? = some cl := ⟨_, List.getElem?_eq_getElem hlt⟩
      have hat : atI (ns.map V.int) ((k.toNat : Nat) : Int) = some (.int cl) := atI_nat (by rw [List.getElem?_map, hcl]; rfl)
      rw [show ((k.toNat : Nat) : Int) = k by omega] at hat
      walk_at "go"
      refine w_ixLs hS hat ?_
    all_goals
      walk_at "go"
      refine w_Iv ⟨by decide, by decide, by decide⟩ rfl ?_
      walk_at "go"
      refine w_ite (fun hc2 => ?_) (fun hc2 => ?_)
    all_goals
      walk_at "go"
      refine w_new (by simp) fun p1 H1 hp1 s1 h1 => ?_
      walk_at "go"
      refine w_I (by decide) ?_
      walk_at "go"
      refine w_I (.inr ⟨by decide, by decide⟩) ?_
      walk_at "go"
      refine w_I (.inl ⟨by decide, by decide⟩) ?_
      walk_at "go"
      refine w_I (.inr ⟨by omega, by omega⟩) ?_
      walk_at "go"
      refine w_I (.inl ⟨by decide, by decide⟩) ?_
      walk_at "go"
      refine w_I (by decide) ?_
      obtain ⟨m, em, hm0, hm1⟩ := bag_primes (i := k.fmod 8) (by rw [fmod_pos _ (by decide)]; exact Int.emod_nonneg _ (by decide)) (by rw [fmod_pos _ (by decide)]; exact Int.emod_lt_of_pos _ (by decide))
      refine w_ixL h1 em ?_
      refine w_I (by omega) ?_
      walk_at "go"
      refine w_new (by simp) fun p2 H2 hp2 s2 h2 => ?_
      refine q p2 H2 (s1.free hp2) (s1.trans s2) ⟨_, _, h2, ?_, ?_, ?_⟩
      · first | decide | omega
      · rw [fmod_pos _ hm0]
        exact Int.emod_nonneg _ (by omega)
      · rw [fmod_pos _ hm0]
        exact Int.lt_of_lt_of_le (Int.emod_lt_of_pos _ hm0) hm1
theorem ok__law_take {f : Addr} {fd : FuncData} (F : FnP K "_law_take" s__law_take f fd) :
    FnOk P w K mg base CX0 1 f fd ["_law_bag_here", "_law_many"] (sp__law_take K) := by
  refine F.ok sc__law_take (fun vs H Q E h => ?_) (fun cdv A outer s H vs Q E hr h => ?_)
  · obtain ⟨b, m, rfl, hm, hm2, hb, q⟩ := h
    rfl
  · obtain ⟨b, m, rfl, hm, hm2, hb, q⟩ := h
    refine ⟨_, PSs.nox (pss_cons (ps_if (pt_cmpR op_gt (pe_ix ix_list (pv 0) pe_int (fun _ _ => rfl)) pe_int (nomark _)) (pss_cons (ps_set (i := 2) sc__law_take.nd rfl (.inl rfl) (pe_op op_modN (pe_ix ix_list (pv 0) pe_int (fun _ _ => rfl)) (pv 1)))
        (pss_cons (ps_asg (pe_op op_fdivZ (pe_ix ix_list (pv 0) pe_int (fun _ _ => rfl)) (pv 1)) (pg_sub (pv 0) pe_int set_list))
        (pss_one (ps_ret (pv 2))))) pss_nil)
        (pss_cons (ps_asg (pe_op op_modN (pe_op op_add (pe_op op_mul (pe_ix ix_list (pv 0) pe_int (fun _ _ => rfl)) pe_int) pe_int) pe_int) (pg_sub (pv 0) pe_int set_list))
        (pss_one (ps_ret (pe_op op_modN (pe_op op_fdivZ (pe_op op_modN (pe_op op_pow (pe_ix ix_list (pv 0) pe_int (fun _ _ => rfl)) pe_int) pe_int) pe_int) (pv 1)))))), ?_⟩
    obtain ⟨A, B, hb, hA, hB, hB2⟩ := hb
    walk_at "go"
    refine w_ite (fun hc => ?_) (fun hc => ?_)
    · walk_at "go"
      refine w_I (by omega) ?_
      walk_at "go"
      refine w_I (divZ_small hm (by omega)) ?_
      walk_at "go"
      refine w_setL hb rfl ?_
      walk_at "go"
      refine q _ _ ?_ ?_ Mv.upd ⟨_, _, upd_same, ?_, hB, hB2⟩
      · rw [fmod_pos _ hm]
        exact Int.emod_nonneg _ (by omega)
      · rw [fmod_pos _ hm]
        exact Int.emod_lt_of_pos _ hm
      · rw [fdiv_pos _ hm]
        exact Int.ediv_nonneg hA (by omega)
    · walk_at "go"
      refine w_I (.inr ⟨by decide, by decide⟩) ?_
      walk_at "go"
      refine w_I (by decide) ?_
      walk_at "go"
      refine w_setL hb rfl ?_
      walk_at "go"
      have hb' : (upd H b (.lst ([V.int A, V.int B].set 1 (V.int ((B * 48271 + 2531011).fmod 2147483647))))) b = some (.lst [.int A, .int ((B * 48271 + 2531011).fmod 2147483647)]) := upd_same
      have hx : 0 ≤ (B * 48271 + 2531011).fmod 2147483647 ∧ (B * 48271 + 2531011).fmod 2147483647 < 2147483647 := by
        rw [fmod_pos _ (by decide)]
        exact ⟨Int.emod_nonneg _ (by decide), Int.emod_lt_of_pos _ (by decide)⟩
      generalize (B * 48271 + 2531011).fmod 2147483647 = x at hb' hx ⊢
      refine w_ixL hb' rfl ?_
      walk_at "go"
      refine w_I ⟨by decide, by decide, by omega⟩ ?_
      walk_at "go"
      refine w_I (by decide) ?_
      walk_at "go"
      refine w_I (divZ_small (by decide) (by decide)) ?_
      walk_at "go"
      refine w_I (by omega) ?_
      refine q _ _ ?_ ?_ Mv.upd ⟨_, _, hb', hA, hx.1, hx.2⟩
      · rw [fmod_pos _ hm]
        exact Int.emod_nonneg _ (by omega)
      · rw [fmod_pos _ hm]
        exact Int.emod_lt_of_pos _ hm
theorem ok__law_shared {f : Addr} {fd : FuncData} (F : FnP K "_law_shared" s__law_shared f fd) (m_abs : mg "abs" = none) :
    FnOk P w K mg base CX0 1 f fd ["_law_one", "_law_other"] (sp__law_shared K) := by
  refine F.ok sc__law_shared (fun vs H Q E h => ?_) (fun cdv A outer s H vs Q E hr h => ?_)
  · obtain ⟨a, c, rfl, q⟩ := h
    rfl
  · obtain ⟨a, c, rfl, q⟩ := h
    refine ⟨_, PSs.nox (pss_cons (ps_par (i := 0) (j := 1) (by rfl) sc__law_shared.nd rfl rfl (by decide) rfl rfl (pa_cons (pe_callB call_abs (by rfl) m_abs (by decide +kernel) (pa_cons (pv 0) pa_nil)) (pa_cons (pe_callB call_abs (by rfl) m_abs (by decide +kernel) (pa_cons (pv 1) pa_nil)) pa_nil)) (by rfl))
        (pss_cons (ps_while PassesOwn.never (pt_cmpR op_gt (pv 1) pe_int (nomark _)) (pss_one (ps_par (i := 0) (j := 1) (by rfl) sc__law_shared.nd rfl rfl (by decide) rfl rfl (pa_cons (pv 1) (pa_cons (pe_op op_modN (pv 0) (pv 1)) pa_nil)) (by rfl))))
        (pss_one (ps_ret (pv 0))))), ?_⟩
    walk_at "go"
    rw [abs_nat, abs_nat]
    refine while_by (fun σ H' => ∃ x y : Nat, σ = [some (.int (x : Int)), some (.int (y : Int))] ∧ Nat.gcd x y = Int.gcd a c ∧ H' = H) (fun σ _ => match σ with | [_, some (.int y)] => y.toNat | _ => 0) ⟨a.natAbs, c.natAbs, rfl, rfl, rfl⟩ (fun σ H' hP => ?_) (fun σ H' Q1 Q2 f h => ?_)
    · obtain ⟨x, y, rfl, e, rfl⟩ := hP
      walk_at "go"
      refine w_ite (fun hc => ?_) (fun hc => ?_)
      · walk_at "go"
        refine w_I (by omega) ?_
        walk_at "go"
        have e1 : (x : Int).fmod (y : Int) = ((x % y : Nat) : Int) := by
          rw [fmod_pos _ hc]
          rfl
        rw [e1]
        refine ⟨⟨y, x % y, rfl, ?_, rfl⟩, ?_⟩
        · rw [← e, Nat.gcd_comm y, ← Nat.gcd_rec, Nat.gcd_comm]
        · show ((x % y : Nat) : Int).toNat < ((y : Nat) : Int).toNat
          have := Nat.mod_lt x (by omega : y > 0)
          omega
      · walk_at "go"
        have e0 : y = 0 := by omega
        subst e0
        rw [Nat.gcd_zero_right] at e
        rw [e]
        exact q
    · obtain ⟨v, hv, i, j, e1, e2, k, ek, qq⟩ := h
      exact ⟨v, hv, i, j, e1, e2, k, ek, f _ _ qq⟩
theorem ok__law_turned {f : Addr} {fd : FuncData} (F : FnP K "_law_turned" s__law_turned f fd) (m_tuple : mg "tuple" = none) (m_range : mg "range" = none) (m_len : mg "len" = none) :
    FnOk P w K mg base CX0 1 f fd ["_law_table"] (sp__law_turned K) := by
  refine F.ok sc__law_turned (fun vs H Q E h => ?_) (fun cdv A outer s H vs Q E hr h => ?_)
  · obtain ⟨v, t, l, rfl, hv, ht0, ht, hl, hl10, q⟩ := h
    rfl
  · obtain ⟨v, t, l, rfl, hv, ht0, ht, hl, hl10, q⟩ := h
    refine ⟨_, PSs.nox (pss_one (ps_ret (pe_callTy call_tuple_of (by rfl) m_tuple (by decide +kernel) (pa_cons (pe_lc (own := [("_law_k", 1)]) (g := gName 1) (tt := tYes) (by rfl) sc__law_turned.nd (pi_range1 (by rfl) m_range (pa_cons (pe_callB call_len_seq (by rfl) m_len (by decide +kernel) (pa_cons (pe_ix ix_tup (pv 0) pe_int (fun _ _ => rfl)) pa_nil)) pa_nil)) (blkOk_by (own := [("_law_k", 1)]) (N := ["_law_table", "_law_k", "_law_row"]) (sc := defScope s__law_turned) (by decide +kernel)) (fun _ _ _ _ _ => (pg_name (i := 1) sc__law_turned.nd rfl (.inr rfl))) (fun _ _ _ _ _ => pts_nil) (fun _ _ _ _ _ => (pe_callTy (r := rTupOf K) call_tupOf (by rfl) m_tuple (by decide +kernel) (pa_cons (pe_lc (own := [("_law_row", 2)]) (g := gName 2) (tt := tYes) (wi := iTup K (tVar 0)) (by rfl) sc__law_turned.nd (pi_tup (pv 0)) (blkOk_by (own := [("_law_row", 2)]) (N := ["_law_table", "_law_k", "_law_row"]) (sc := ({ kind := PySem.ScopeKind.function, names := [ (PySem.Str.ofString ".0", PySem.NameKind.local), (PySem.Str.ofString "_law_k", PySem.NameKind.cell), (PySem.Str.ofString "tuple", PySem.NameKind.globalImplicit), (PySem.Str.ofString "_law_table", PySem.NameKind.cell)], isGenerator := false, isCoroutine := false, more := [] } : Scope)) (by decide +kernel)) (fun _ _ _ _ _ => (pg_name (i := 2) sc__law_turned.nd rfl (.inl rfl))) (fun _ _ _ _ _ => pts_nil) (fun _ _ _ _ _ => (pe_ix (r := rIxT K) ix_tup (pv 2) (pv 1) (fun _ _ => rfl)))) pa_nil)))) pa_nil)))), ?_⟩
    obtain ⟨p, xs, rfl, hp, hlx, hx⟩ := hv
    obtain ⟨x0, hx0⟩ : ∃ x0, xs[0]? = some x0 := ⟨_, List.getElem?_eq_getElem (by omega)⟩
    have ht00 : t[0]? = some t[0] := List.getElem?_eq_getElem ht0
    obtain ⟨p0, ns0, rfl, hp0, hl0, hn0⟩ := hx 0 x0 _ hx0 ht00
    have hl0' : ns0.length = l := by rw [hl0]; exact hl _ (List.getElem_mem ht0)
    walk_at "go"
    refine w_ixT hp (atI_nat (j := 0) hx0) ?_
    walk_at "go"
    refine ⟨p0, ns0, rfl, .inr (SqT.of hp0), ?_⟩
    walk_at "go"
    refine ⟨by omega, by omega, fun D hD => ?_⟩
    rw [hl0']
    refine lc_range (fun j H' => Same H H' ∧ ∃ ys, H' D = some (.lst ys) ∧ Acc RowV H' ys (turnF l t) j) ⟨Same.updD (Same.refl H) hD, [], upd_same, Acc.nil⟩ (fun j H' hj hP => ?_) (fun H' hP => ?_)
    · obtain ⟨sm, ys, hD', hacc⟩ := hP
      have hj' : j < l := hj
      have hp' := sm _ _ hp
      walk_at "go"
      refine ⟨rfl, ?_⟩
      walk_at "go"
      refine ⟨p, rfl, ⟨xs, SqT.of hp'⟩, fun D2 hD2 => ?_⟩
      have nD : D ≠ D2 := fresh_of hD' hD2
      refine lc_tup (xs := xs) (fun i H'' => Same H' H'' ∧ ∃ zs, H'' D2 = some (.lst zs) ∧ Acc NumV H'' zs (t.map fun row => row.getD j (0, 1)) i) ⟨Same.updD (Same.refl H') hD2, [], upd_same, Acc.nil⟩ (fun i H'' _ hP => SqT.of (hP.1 _ _ hp')) (fun i x H'' hxi hP => ?_) (fun H'' hP => ?_)
      · obtain ⟨sm2, zs, hD2', hacc2⟩ := hP
        have hi : i < t.length := by
          have := (List.getElem?_eq_some_iff.mp hxi).1
          omega
        have hti : t[i]? = some t[i] := List.getElem?_eq_getElem hi
        obtain ⟨pr, ns, rfl, hpr, hln, hns⟩ := hx i x _ hxi hti
        have hlr := hl _ (List.getElem_mem hi)
        obtain ⟨y, hy⟩ : ∃ y, ns[j]? = some y := ⟨_, List.getElem?_eq_getElem (by omega)⟩
        have htj : t[i][j]? = some (t[i].getD j (0, 1)) := by
          rw [List.getD_eq_getElem?_getD, List.getElem?_eq_getElem (by omega)]
          rfl
        have hn := hns j y _ hy htj
        have hpr' := sm2 _ _ (sm _ _ hpr)
        walk_at "go"
        refine ⟨rfl, ?_⟩
        walk_at "go"
        rw [Int.zero_add]
        refine w_ixT hpr' (atI_nat hy) ?_
        have kt : Kt H'' (upd H'' D2 (.lst (zs ++ [y]))) := Kt.updL hD2'
        refine ⟨zs, hD2', small1000 (by rw [hacc2.1]; omega), Same.updD sm2 hD2, _, upd_same, ?_⟩
        exact (hacc2.mono fun x a h => NumV.kt h kt).snoc (a := t[i].getD j (0, 1)) (by rw [List.getElem?_map, hti]; rfl) ((hn.kt (Kt.of (sm.trans sm2))).kt kt)
      · obtain ⟨sm2, zs, hD2', hacc2⟩ := hP
        walk_at "go"
        refine w_tupOf2 hD2' ?_
        refine w_newO fun q3 H3 hq3 s3 h3 => ?_
        have hD3 := s3 _ _ (sm2 _ _ hD')
        have kt : Kt H' (upd H3 D (.lst (ys ++ [V.ref q3]))) := (Kt.of (sm2.trans s3)).trans (Kt.updL hD3)
        refine ⟨ys, hD3, small1000 (by rw [hacc.1]; omega), Same.updD ((sm.trans sm2).trans s3) hD, _, upd_same, ?_⟩
        have hrow : RowV H3 (.ref q3) (t.map fun row => row.getD j (0, 1)) := (hacc2.mono fun x a h => NumV.kt h (Kt.of s3)).sq (by rw [List.length_map]; exact hlx) h3
        exact (hacc.mono fun x a h => RowV.kt h kt).snoc (turn_at hj') (RowV.kt hrow (Kt.updL hD3))
    · obtain ⟨sm, ys, hD', hacc⟩ := hP
      walk_at "go"
      refine ⟨_, _, rfl, .inl ⟨SqL.of hD', fun m hm => ?_⟩⟩
      exact q _ _ (sm.trans (same_upd hm)) ((hacc.mono fun x a h => RowV.kt h (Kt.of (same_upd hm))).sq (by unfold turnF; rw [List.length_map, List.length_range]; rfl) upd_same)
theorem ok__law_ones {f : Addr} {fd : FuncData} (F : FnP K "_law_ones" s__law_ones f fd) (m_tuple : mg "tuple" = none) (m_range : mg "range" = none) (m_int : mg "int" = none) :
    FnOk P w K mg base CX0 1 f fd ["_law_many"] (sp__law_ones K) := by
  refine F.ok sc__law_ones (fun vs H Q E h => ?_) (fun cdv A outer s H vs Q E hr h => ?_)
  · obtain ⟨m, rfl, hm, q⟩ := h
    rfl
  · obtain ⟨m, rfl, hm, q⟩ := h
    refine ⟨_, PSs.nox (pss_one (ps_ret (pe_callTy call_tuple_of (by rfl) m_tuple (by decide +kernel) (pa_cons (pe_lc (own := [("_law_i", 1)]) (g := gName 1) (tt := tYes) (by rfl) sc__law_ones.nd (pi_range1 (by rfl) m_range (pa_cons (pv 0) pa_nil)) (blkOk_by (own := [("_law_i", 1)]) (N := ["_law_many", "_law_i", "_law_j"]) (sc := defScope s__law_ones) (by decide +kernel)) (fun _ _ _ _ _ => (pg_name (i := 1) sc__law_ones.nd rfl (.inr rfl))) (fun _ _ _ _ _ => pts_nil) (fun _ _ _ _ _ => (pe_callTy (r := rTupOf K) call_tupOf (by rfl) m_tuple (by decide +kernel) (pa_cons (pe_lc (own := [("_law_j", 2)]) (g := gName 2) (tt := tYes) (wi := iRng1 (tCons (tVar 0) tNil)) (by rfl) sc__law_ones.nd (pi_range1 (by rfl) m_range (pa_cons (pv 0) pa_nil)) (blkOk_by (own := [("_law_j", 2)]) (N := ["_law_many", "_law_i", "_law_j"]) (sc := ({ kind := PySem.ScopeKind.function, names := [ (PySem.Str.ofString ".0", PySem.NameKind.local), (PySem.Str.ofString "_law_i", PySem.NameKind.cell), (PySem.Str.ofString "tuple", PySem.NameKind.globalImplicit), (PySem.Str.ofString "range", PySem.NameKind.globalImplicit), (PySem.Str.ofString "_law_many", PySem.NameKind.cell)], isGenerator := false, isCoroutine := false, more := [] } : Scope)) (by decide +kernel)) (fun _ _ _ _ _ => (pg_name (i := 2) sc__law_ones.nd rfl (.inl rfl))) (fun _ _ _ _ _ => pts_nil) (fun _ _ _ _ _ => (pe_tup (pa_cons (pe_callTy call_int1 (by rfl) m_int (by decide +kernel) (pa_cons (pe_cmpR op_eq (pv 1) (pv 2) (nomark _)) pa_nil)) (pa_cons pe_int pa_nil))))) pa_nil)))) pa_nil)))), ?_⟩
    walk_at "go"
    refine ⟨by omega, by omega, fun D hD => ?_⟩
    refine lc_range (fun i H' => Same H H' ∧ ∃ ys, H' D = some (.lst ys) ∧ Acc RowV H' ys (onesF m) i) ⟨Same.updD (Same.refl H) hD, [], upd_same, Acc.nil⟩ (fun i H' hi hP => ?_) (fun H' hP => ?_)
    · obtain ⟨sm, ys, hD', hacc⟩ := hP
      have hi' : i < m := by omega
      walk_at "go"
      refine ⟨rfl, ?_⟩
      walk_at "go"
      refine ⟨by omega, by omega, fun D2 hD2 => ?_⟩
      have nD : D ≠ D2 := fresh_of hD' hD2
      refine lc_range (fun j H'' => Same H' H'' ∧ ∃ zs, H'' D2 = some (.lst zs) ∧ Acc NumV H'' zs ((List.range m).map fun j => ((if i = j then 1 else 0 : Int), (1 : Int))) j) ⟨Same.updD (Same.refl H') hD2, [], upd_same, Acc.nil⟩ (fun j H'' hj hP => ?_) (fun H'' hP => ?_)
      · obtain ⟨sm2, zs, hD2', hacc2⟩ := hP
        have hj' : j < m := by omega
        walk_at "go"
        refine ⟨rfl, ?_⟩
        walk_at "go"
        refine .inr ⟨_, rfl, ?_⟩
        walk_at "go"
        refine w_new (by simp) fun p3 H3 hp3 s3 h3 => ?_
        have h3D := s3 _ _ hD2'
        have kt : Kt H'' (upd H3 D2 (.lst (zs ++ [V.ref p3]))) := (Kt.of s3).trans (Kt.updL h3D)
        refine ⟨zs, h3D, small1000 (by rw [hacc2.1]; omega), Same.updD (sm2.trans s3) hD2, _, upd_same, ?_⟩
        refine (hacc2.mono fun x a h => NumV.kt h kt).snoc (a := ((if i = j then 1 else 0 : Int), (1 : Int))) (by rw [List.getElem?_map, List.getElem?_range hj']; rfl) ⟨p3, rfl, ?_⟩
        have e : (if decide ((0 : Int) + (i : Int) = 0 + (j : Int)) = true then (1 : Int) else 0) = if i = j then 1 else 0 := by
          by_cases h : i = j
          · rw [if_pos h, decide_eq_true (by omega)]; rfl
          · rw [if_neg h, decide_eq_false (by omega)]; rfl
        rw [e] at h3
        exact Kt.updL h3D _ _ h3
      · obtain ⟨sm2, zs, hD2', hacc2⟩ := hP
        walk_at "go"
        refine ⟨_, _, rfl, .inl ⟨SqL.of hD2', fun l hl => ?_⟩⟩
        have s4 := same_upd (o := HO.tup zs) hl
        have h4D := s4 _ _ (sm2 _ _ hD')
        have kt : Kt H' (upd (upd H'' l (.tup zs)) D (.lst (ys ++ [V.ref l]))) := (Kt.of (sm2.trans s4)).trans (Kt.updL h4D)
        refine ⟨ys, h4D, small1000 (by rw [hacc.1]; omega), Same.updD (sm.trans (sm2.trans s4)) hD, _, upd_same, ?_⟩
        refine (hacc.mono fun x a h => RowV.kt h kt).snoc (a := (List.range m).map fun j => ((if i = j then 1 else 0 : Int), (1 : Int))) (by unfold onesF; rw [List.getElem?_map, List.getElem?_range hi']; rfl) ?_
        refine RowV.kt ((hacc2.mono fun x a h => NumV.kt h (Kt.of s4)).sq (p := l) ?_ upd_same) (Kt.updL h4D)
        rw [List.length_map, List.length_range]
        omega
    · obtain ⟨sm, ys, hD', hacc⟩ := hP
      walk_at "go"
      refine ⟨_, _, rfl, .inl ⟨SqL.of hD', fun l hl => ?_⟩⟩
      refine q _ _ (sm.trans (same_upd hl)) ((hacc.mono fun x a h => RowV.kt h (Kt.of (same_upd hl))).sq ?_ upd_same)
      unfold onesF
      rw [List.length_map, List.length_range]
      omega
theorem ok__law_number_text {f : Addr} {fd : FuncData} (F : FnP K "_law_number_text" s__law_number_text f fd) (m_str : mg "str" = none) :
    FnOk P w K mg base CX0 1 f fd ["_law_x"] (sp__law_number_text K) := by
  refine F.ok sc__law_number_text (fun vs H Q E h => ?_) (fun cdv A outer s H vs Q E hr h => ?_)
  · obtain ⟨v, a, rfl, hv, ha, q⟩ := h
    rfl
  · obtain ⟨v, a, rfl, hv, ha, q⟩ := h
    refine ⟨_, PSs.nox (pss_one (ps_ret (pe_ifExp (pt_cmpR op_eq (pe_ix ix_tup (pv 0) pe_int (fun _ _ => rfl)) pe_int (nomark _)) (pe_callTy call_str_int (by rfl) m_str (by decide +kernel) (pa_cons (pe_ix ix_tup (pv 0) pe_int (fun _ _ => rfl)) pa_nil)) (pe_op op_add_str (pe_op op_add_str (pe_callTy call_str_int (by rfl) m_str (by decide +kernel) (pa_cons (pe_ix ix_tup (pv 0) pe_int (fun _ _ => rfl)) pa_nil)) pe_str) (pe_callTy call_str_int (by rfl) m_str (by decide +kernel) (pa_cons (pe_ix ix_tup (pv 0) pe_int (fun _ _ => rfl)) pa_nil)))))), ?_⟩
    obtain ⟨p, rfl, hp⟩ := hv
    walk_at "go"
    refine w_ite (fun hc => ?_) (fun hc => ?_)
    · walk_at "go"
      refine ⟨ha.1, ?_⟩
      have e : numT a = Str.ofString (toString a.1) := if_pos hc
      rw [e] at q
      exact q
    · have e : numT a = Str.ofString (toString a.1) ++ ("/" : Str) ++ Str.ofString (toString a.2) := if_neg hc
      have l1 := (ok_int ha.1).1
      have l2 := (ok_int ha.2).1
      have l3 : ("/" : Str).length = 1 := by decide
      have z : (10000 : Nat) ≤ sizeLine := by decide
      walk_at "go"
      refine ⟨ha.1, ?_⟩
      walk_at "go"
      refine ⟨_, _, rfl, rfl, Nat.le_trans (by omega) z, ?_⟩
      walk_at "go"
      refine ⟨ha.2, ?_⟩
      refine ⟨_, _, rfl, rfl, Nat.le_trans (by rw [Str.length_append]; omega) z, ?_⟩
      rw [e] at q
      exact q
theorem ok_is_ground {f : Addr} {fd : FuncData} (F : FnP K "is_ground" s_is_ground f fd)
    {f_is_whole : Addr} {fd_is_whole : FuncData} (F_is_whole : FnP K "is_whole" s_is_whole f_is_whole fd_is_whole) (b_is_whole : Binds K fd_is_whole ["thing"] []) (g_is_whole : mg "is_whole" = some (.ref f_is_whole)) (G_is_whole : FnOk P w K mg base CX0 1 f_is_whole fd_is_whole ["thing"] (sp_is_whole K))
    {a_GROUNDS : Addr} (mg_GROUNDS : mg "GROUNDS" = some (.ref a_GROUNDS)) (gr_GROUNDS : ∀ H : Hp, SqT K H a_GROUNDS [.int 0, .int 3, .int 5, .int 7, .int 11, .int 13]) :
    FnOk P w K mg base CX0 2 f fd ["thing"] (sp_is_ground K) := by
  refine F.ok sc_is_ground (fun vs H Q E h => ?_) (fun cdv A outer s H vs Q E hr h => ?_)
  · obtain ⟨i, rfl, q⟩ := h
    rfl
  · obtain ⟨i, rfl, q⟩ := h
    refine ⟨_, PSs.nox (pss_one (ps_ret (pe_and (pe_call G_is_whole hr (by rfl) g_is_whole F_is_whole.kp b_is_whole .nil pass0 (pa_cons (pv 0) pa_nil)) (pe_one (pe_cmpR op_in_seq (pv 0) (pe_glob (v := .ref a_GROUNDS) (by rfl) mg_GROUNDS rfl) (by rfl)))))), ?_⟩
    walk_at "go"
    refine ⟨.int i, rfl, .inl rfl, ?_⟩
    walk_at "go"
    refine w_iteB (fun _ => ?_) (fun z => by cases (show true = false from z))
    walk_at "go"
    refine ⟨_, _, rfl, .inr (gr_GROUNDS _), rfl, rfl, ?_⟩
    rw [← in_grd] at q
    exact q
theorem ok_is_number {f : Addr} {fd : FuncData} (F : FnP K "is_number" s_is_number f fd)
    {f_is_whole : Addr} {fd_is_whole : FuncData} (F_is_whole : FnP K "is_whole" s_is_whole f_is_whole fd_is_whole) (b_is_whole : Binds K fd_is_whole ["thing"] []) (g_is_whole : mg "is_whole" = some (.ref f_is_whole)) (G_is_whole : FnOk P w K mg base CX0 1 f_is_whole fd_is_whole ["thing"] (sp_is_whole K))
    {f_common_divisor : Addr} {fd_common_divisor : FuncData} (F_common_divisor : FnP K "common_divisor" s_common_divisor f_common_divisor fd_common_divisor) (b_common_divisor : Binds K fd_common_divisor ["a", "b"] []) (g_common_divisor : mg "common_divisor" = some (.ref f_common_divisor)) (G_common_divisor : FnOk P w K mg base CX0 1 f_common_divisor fd_common_divisor ["a", "b"] (sp_common_divisor K)) (m_isinstance : mg "isinstance" = none) (m_tuple : mg "tuple" = none) (m_len : mg "len" = none) :
    FnOk P w K mg base CX0 2 f fd ["ground", "thing"] (sp_is_number K) := by
  refine F.ok sc_is_number (fun vs H Q E h => ?_) (fun cdv A outer s H vs Q E hr h => ?_)
  · obtain ⟨g, v, kb, nb, rfl, hv, q⟩ := h
    rfl
  · obtain ⟨g, v, kb, nb, rfl, hv, q⟩ := h
    refine ⟨_, PSs.nox (pss_cons (ps_if (PW.pt (pw_or (pt_not (pt_val (pe_callB call_isi (by rfl) m_isinstance (by decide +kernel) (pa_cons (pv 1) (pa_cons (pe_bltn (v := .ty "tuple") (by rfl) m_tuple (by decide +kernel) rfl) pa_nil))))) (pw_or1 (pt_cmpR op_ne (pe_callB call_len_seq (by rfl) m_len (by decide +kernel) (pa_cons (pv 1) pa_nil)) pe_int (nomark _))))) (pss_one (ps_ret pe_bl)) pss_nil)
        (pss_cons (ps_asg (pv 1) (pg_tup rfl (pgs_cons (pg_name (i := 2) sc_is_number.nd rfl (.inl rfl)) (pgs_cons (pg_name (i := 3) sc_is_number.nd rfl (.inl rfl)) pgs_nil))))
        (pss_cons (ps_if (PW.pt (pw_or (pt_not (pt_val (pe_call G_is_whole hr (by rfl) g_is_whole F_is_whole.kp b_is_whole .nil pass0 (pa_cons (pv 2) pa_nil)))) (pw_or1 (pt_not (pt_val (pe_call G_is_whole hr (by rfl) g_is_whole F_is_whole.kp b_is_whole .nil pass0 (pa_cons (pv 3) pa_nil))))))) (pss_one (ps_ret pe_bl)) pss_nil)
        (pss_cons (ps_if (pt_cmpR op_eq (pv 0) pe_int (nomark _)) (pss_one (ps_ret (pe_and (pe_cmpR op_ge (pv 3) pe_int (nomark _)) (pe_one (pe_cmpR op_eq (pe_call G_common_divisor hr (by rfl) g_common_divisor F_common_divisor.kp b_common_divisor .nil pass0 (pa_cons (pv 2) (pa_cons (pv 3) pa_nil))) pe_int (nomark _)))))) pss_nil)
        (pss_one (ps_ret (pe_and (pe_chain op_le op_lt pe_int (pv 2) (pv 0)) (pe_one (pe_cmpR op_eq (pv 3) pe_int (nomark _)))))))))), ?_⟩
    walk_at "go"
    refine tb_tup hv (fun p xs e hp hz hx => ?_) (fun hn => ?_)
    · subst e
      rw [numOf_tup hp] at q
      walk_at "go"
      refine iteF ?_
      walk_at "go"
      refine ⟨p, xs, rfl, .inr (SqT.of hp), ?_⟩
      walk_at "go"
      refine w_iteN (fun hl => ?_) (fun hl => ?_)
      · walk_at "go"
        rw [numOk_len (by omega)] at q
        exact q
      · obtain ⟨t, b, rfl⟩ : ∃ t b, xs = [t, b] := by
          match xs, hl with
          | [t, b], _ => exact ⟨t, b, rfl⟩
          | [], h => simp at h
          | [_], h => simp at h
          | _ :: _ :: _ :: _, h => simp at h; omega
        walk_at "go"
        refine ⟨t, rfl, (hx t (by simp)).tv, ?_⟩
        walk_at "go"
        refine w_iteBN (fun hw => ?_) (fun hw => ?_)
        · walk_at "go"
          rw [numOk_l hw] at q
          exact q
        · walk_at "go"
          refine ⟨b, rfl, (hx b (by simp)).tv, ?_⟩
          walk_at "go"
          refine w_iteBN (fun hw2 => ?_) (fun hw2 => ?_)
          · walk_at "go"
            rw [numOk_r hw2] at q
            exact q
          · obtain ⟨t, rfl⟩ := whole_int hw
            obtain ⟨b, rfl⟩ := whole_int hw2
            walk_at "go"
            refine w_ite (fun hg => ?_) (fun hg => ?_)
            · subst hg
              rw [numOk_0] at q
              walk_at "go"
              refine w_ite (fun hb => ?_) (fun hb => ?_)
              · walk_at "go"
                refine ⟨t, b, rfl, ?_⟩
                walk_at "go"
                rw [decide_eq_true hb] at q
                exact q
              · rw [decide_eq_false hb] at q
                exact q
            · rw [numOk_g hg] at q
              walk_at "go"
              refine w_ite (fun h0 => ?_) (fun h0 => ?_)
              · walk_at "go"
                refine w_ite (fun h1 => ?_) (fun h1 => ?_)
                · walk_at "go"
                  rw [decide_eq_true h0, decide_eq_true h1] at q
                  exact q
                · rw [decide_eq_true h0, decide_eq_false h1] at q
                  exact q
              · walk_at "go"
                rw [decide_eq_false h0] at q
                exact q
    · rw [numOf_no hn] at q
      walk_at "go"
      refine iteT ?_
      walk_at "go"
      exact q
theorem ok_lowest {f : Addr} {fd : FuncData} (F : FnP K "lowest" s_lowest f fd)
    {f_common_divisor : Addr} {fd_common_divisor : FuncData} (F_common_divisor : FnP K "common_divisor" s_common_divisor f_common_divisor fd_common_divisor) (b_common_divisor : Binds K fd_common_divisor ["a", "b"] []) (g_common_divisor : mg "common_divisor" = some (.ref f_common_divisor)) (G_common_divisor : FnOk P w K mg base CX0 1 f_common_divisor fd_common_divisor ["a", "b"] (sp_common_divisor K))
    {f_wheel_back : Addr} {fd_wheel_back : FuncData} (F_wheel_back : FnP K "wheel_back" s_wheel_back f_wheel_back fd_wheel_back) (b_wheel_back : Binds K fd_wheel_back ["wheel", "whole"] []) (g_wheel_back : mg "wheel_back" = some (.ref f_wheel_back)) (G_wheel_back : FnOk P w K mg base CX0 1 f_wheel_back fd_wheel_back ["wheel", "whole"] (sp_wheel_back K)) :
    FnOk P w K mg base CX0 2 f fd ["ground", "top", "bottom"] (sp_lowest K) := by
  refine F.ok sc_lowest (fun vs H Q E h => ?_) (fun cdv A outer s H vs Q E hr h => ?_)
  · obtain ⟨g, u, d, rfl, hh, q⟩ := h
    rfl
  · obtain ⟨g, u, d, rfl, hh, q⟩ := h
    refine ⟨_, PSs.nox (pss_cons (ps_if (pt_cmpR op_ne (pv 0) pe_int (nomark _)) (pss_one (ps_ret (pe_tup (pa_cons (pe_op op_modN (pe_op op_mulW (pv 1) (pe_call G_wheel_back hr (by rfl) g_wheel_back F_wheel_back.kp b_wheel_back .nil pass0 (pa_cons (pv 0) (pa_cons (pv 2) pa_nil)))) (pv 0)) (pa_cons pe_int pa_nil))))) pss_nil)
        (pss_cons (ps_set (i := 3) sc_lowest.nd rfl (.inl rfl) (pe_call G_common_divisor hr (by rfl) g_common_divisor F_common_divisor.kp b_common_divisor .nil pass0 (pa_cons (pv 1) (pa_cons (pv 2) pa_nil))))
        (pss_cons (ps_if (pt_cmpR op_lt (pv 2) pe_int (nomark _)) (pss_one (ps_set (i := 3) sc_lowest.nd rfl (.inl rfl) (pe_un un_neg (pv 3)))) pss_nil)
        (pss_one (ps_ret (pe_tup (pa_cons (pe_op op_fdivZ (pv 1) (pv 3)) (pa_cons (pe_op op_fdivZ (pv 2) (pv 3)) pa_nil)))))))), ?_⟩
    walk_at "go"
    refine w_iteN (fun hc => ?_) (fun hc => ?_)
    · rcases hh with ⟨h0, _⟩ | ⟨hg, hu, k, hk1, hk, hkd⟩
      · exact absurd h0 hc
      · walk_at "go"
        refine ⟨g, d, k, rfl, hg, hk1, hk, hkd, fun f hf1 hf hfd => ?_⟩
        refine w_I (wide_mul (b := 5) hu (show f.natAbs < 2 ^ 5 by omega) (by decide) (by decide) (by decide)) ?_
        walk_at "go"
        refine w_I (by omega) ?_
        walk_at "go"
        refine w_new (by simp) fun p1 H1 hp1 s1 h1 => ?_
        refine q p1 H1 hp1 s1 ?_
        rw [low_inv (by omega) hfd]
        exact h1
    · subst hc
      rcases hh with ⟨_, hd, hz⟩ | ⟨hg, _⟩
      · have hI : lowI 0 u d = none := by
          unfold lowI
          rw [if_neg (by decide)]
        have e : lowF 0 u d = (u.fdiv (lowC u d), d.fdiv (lowC u d)) := by
          unfold lowF
          rw [hI]
        have hcz : ∀ i : Int, CDivZ i (lowC u d) := fun i => divZ_of (b := 8500) (lowC_ne hd) (Nat.lt_of_le_of_lt (lowC_le hd) hz) (by decide) (by decide)
        rw [e] at q
        walk_at "go"
        refine ⟨u, d, rfl, ?_⟩
        walk_at "go"
        refine w_ite (fun hn => ?_) (fun hn => ?_)
        · walk_at "go"
          have ec : lowC u d = -(Int.gcd u d : Int) := by
            unfold lowC
            rw [if_pos hn, Int.mul_neg, Int.mul_one]
          rw [← ec]
          refine w_I (hcz _) ?_
          walk_at "go"
          refine w_I (hcz _) ?_
          walk_at "go"
          refine w_new (by simp) fun p1 H1 hp1 s1 h1 => ?_
          exact q p1 H1 hp1 s1 h1
        · walk_at "go"
          have ec : lowC u d = (Int.gcd u d : Int) := by
            unfold lowC
            rw [if_neg hn, Int.mul_one]
          rw [← ec]
          refine w_I (hcz _) ?_
          walk_at "go"
          refine w_I (hcz _) ?_
          walk_at "go"
          refine w_new (by simp) fun p1 H1 hp1 s1 h1 => ?_
          exact q p1 H1 hp1 s1 h1
      · exact absurd hg (by decide)
theorem ok_whole_row {f : Addr} {fd : FuncData} (F : FnP K "whole_row" s_whole_row f fd)
    {f_common_divisor : Addr} {fd_common_divisor : FuncData} (F_common_divisor : FnP K "common_divisor" s_common_divisor f_common_divisor fd_common_divisor) (b_common_divisor : Binds K fd_common_divisor ["a", "b"] []) (g_common_divisor : mg "common_divisor" = some (.ref f_common_divisor)) (G_common_divisor : FnOk P w K mg base CX0 1 f_common_divisor fd_common_divisor ["a", "b"] (sp_common_divisor K)) :
    FnOk P w K mg base CX0 2 f fd ["row"] (sp_whole_row K) := by
  refine F.ok sc_whole_row (fun vs H Q E h => ?_) (fun cdv A outer s H vs Q E hr h => ?_)
  · obtain ⟨v, r, g, k, b, rfl, hv, hok, hk0, hbb, hb8, hk, hlr, q⟩ := h
    rfl
  · obtain ⟨v, r, g, k, b, rfl, hv, hok, hk0, hbb, hb8, hk, hlr, q⟩ := h
    refine ⟨_, PSs.nox (pss_cons (ps_set (i := 1) sc_whole_row.nd rfl (.inr rfl) pe_int)
        (pss_cons (ps_for PassesOwn.never rfl (pi_or (pi_list (pv 0)) (pi_tup (pv 0))) (pg_name (i := 2) sc_whole_row.nd rfl (.inl rfl)) (pss_one (ps_set (i := 1) sc_whole_row.nd rfl (.inr rfl) (pe_op op_mulW (pe_op op_fdivZ (pv 1) (pe_call G_common_divisor hr (by rfl) g_common_divisor F_common_divisor.kp b_common_divisor .nil pass0 (pa_cons (pv 1) (pa_cons (pe_ix ix_tup (pv 2) pe_int (fun _ _ => rfl)) pa_nil)))) (pe_ix ix_tup (pv 2) pe_int (fun _ _ => rfl))))))
        (pss_one (ps_ret (pe_tup (pa_cons (pe_lc (own := [("x", 2)]) (g := gName 2) (tt := tYes) (by rfl) sc_whole_row.nd (pi_or (pi_list (pv 0)) (pi_tup (pv 0))) (blkOk_by (own := [("x", 2)]) (N := ["row", "bottom", "x"]) (sc := defScope s_whole_row) (by decide +kernel)) (fun _ _ _ _ _ => (pg_name (i := 2) sc_whole_row.nd rfl (.inl rfl))) (fun _ _ _ _ _ => pts_nil) (fun _ _ _ _ _ => (pe_op op_mulW (pe_ix (r := rIxT K) ix_tup (pv 2) pe_int (fun _ _ => rfl)) (pe_op op_fdivZ (pv 1) (pe_ix (r := rIxT K) ix_tup (pv 2) pe_int (fun _ _ => rfl)))))) (pa_cons (pv 1) pa_nil))))))), ?_⟩
    rcases hv with hv | hv
    · obtain ⟨p, xs, rfl, hp, hlx, hx⟩ := hv
      have hpos : ∀ x ∈ r, 0 < x.2 := fun x h => (hok x h).pos
      have hbd : ∀ i, 0 < wrB (r.take i) ∧ (wrB (r.take i)).natAbs ≤ 2 ^ b := fun i => by
        have hsub : ∀ x ∈ r.take i, x ∈ r := fun x h => List.mem_of_mem_take h
        exact ⟨(wrB_spec fun x h => hpos x (hsub x h)).1, hbb i⟩
      walk_at "go"
      refine w_inr ?_
      walk_at "go"
      refine ⟨p, rfl, ⟨xs, SqT.of hp⟩, ?_⟩
      refine for_tup (xs := xs) (fun i σ H' => H' = H ∧ ∃ y, σ = [some (.ref p), some (.int (wrB (r.take i))), y]) ⟨rfl, none, rfl⟩ (fun i σ H' _ hP => by obtain ⟨rfl, _⟩ := hP; exact SqT.of hp) (fun i x σ H' hxi hP => ?_) (fun σ H' hP => ?_)
      · obtain ⟨rfl, y, rfl⟩ := hP
        have hi : i < r.length := by
          have := (List.getElem?_eq_some_iff.mp hxi).1
          omega
        have hri : r[i]? = some r[i] := List.getElem?_eq_getElem hi
        obtain ⟨px, rfl, hpx⟩ := hx i x _ hxi hri
        have hmem := List.getElem_mem hi
        have st := step_le (hbd i).1 (hpos _ hmem) (hbd i).2 (hok _ hmem).2.1
        walk_at "go"
        refine ⟨_, _, rfl, ?_⟩
        refine w_I (divZ_of (b := k) st.2.2.1 st.2.2.2 hk0 (by omega)) ?_
        walk_at "go"
        refine w_I (mulW_le st.2.1 (Nat.le_of_lt (hok _ hmem).2.1) (by omega)) ?_
        walk_at "go"
        refine ⟨rfl, some (.ref px), ?_⟩
        rw [wrB_take hri]
        rfl
      · obtain ⟨rfl, y, rfl⟩ := hP
        have e : r.take xs.length = r := List.take_of_length_le (by omega)
        rw [e]
        have hB := hbd r.length
        rw [List.take_length] at hB
        walk_at "go"
        refine w_inr ?_
        walk_at "go"
        refine ⟨p, rfl, ⟨xs, SqT.of hp⟩, fun D hD => ?_⟩
        refine lc_tup (xs := xs) (fun i H'' => Same H' H'' ∧ H'' D = some (.lst (((wrT r).take i).map V.int))) ⟨Same.updD (Same.refl H') hD, upd_same⟩ (fun i H'' _ hP => SqT.of (hP.1 _ _ hp)) (fun i x H'' hxi hP => ?_) (fun H'' hP => ?_)
        · obtain ⟨sm, hD'⟩ := hP
          have hi : i < r.length := by
            have := (List.getElem?_eq_some_iff.mp hxi).1
            omega
          have hri : r[i]? = some r[i] := List.getElem?_eq_getElem hi
          obtain ⟨px, rfl, hpx⟩ := hx i x _ hxi hri
          have hpx' := sm _ _ hpx
          have hmem := List.getElem_mem hi
          have hp2 := hpos _ hmem
          walk_at "go"
          refine ⟨rfl, ?_⟩
          walk_at "go"
          refine w_I (divZ_of (b := k) (by omega) (hok _ hmem).2.1 hk0 (by omega)) ?_
          have htm : (r[i].1 * (wrB r).fdiv r[i].2) ∈ wrT r := List.mem_map.mpr ⟨_, hmem, rfl⟩
          have hq : ((wrB r).fdiv r[i].2).natAbs ≤ 2 ^ b := by
            obtain ⟨q', e'⟩ := (wrB_spec hpos).2.1 _ hmem
            have f1 : (wrB r).fdiv r[i].2 = q' := by
              rw [e']
              exact Int.mul_fdiv_cancel_left _ (by omega)
            rw [f1]
            have h2 := natAbs_fac (c := r[i].2) (q := q') (by omega)
            rw [← e'] at h2
            exact Nat.le_trans h2 hB.2
          refine w_I (mulW_le (Nat.le_of_lt (hok _ hmem).1) hq (by omega)) ?_
          refine ⟨_, hD', ?_, Same.updD sm hD, ?_⟩
          · rw [List.length_map, List.length_take]
            exact small1000 (by unfold wrT; rw [List.length_map]; omega)
          · have gz : (wrT r)[i]? = some (r[i].1 * (wrB r).fdiv r[i].2) := by
              unfold wrT
              rw [List.getElem?_map, hri]
              rfl
            rw [upd_same, List.take_add_one, gz, List.map_append]
            rfl
        · obtain ⟨sm, hD'⟩ := hP
          have e2 : (wrT r).take xs.length = wrT r := List.take_of_length_le (by unfold wrT; rw [List.length_map]; omega)
          rw [e2] at hD'
          walk_at "go"
          refine w_new (by simp) fun p1 H1 hp1 s1 h1 => ?_
          exact q p1 D _ (sm.trans s1) hD h1 (s1 _ _ hD')
    · obtain ⟨p, xs, rfl, hp, hlx, hx⟩ := hv
      have hpos : ∀ x ∈ r, 0 < x.2 := fun x h => (hok x h).pos
      have hbd : ∀ i, 0 < wrB (r.take i) ∧ (wrB (r.take i)).natAbs ≤ 2 ^ b := fun i => by
        have hsub : ∀ x ∈ r.take i, x ∈ r := fun x h => List.mem_of_mem_take h
        exact ⟨(wrB_spec fun x h => hpos x (hsub x h)).1, hbb i⟩
      walk_at "go"
      refine w_inl ?_
      walk_at "go"
      refine ⟨p, rfl, ⟨xs, SqL.of hp⟩, ?_⟩
      refine for_list (xs := xs) (fun i σ H' => H' = H ∧ ∃ y, σ = [some (.ref p), some (.int (wrB (r.take i))), y]) ⟨rfl, none, rfl⟩ (fun i σ H' _ hP => by obtain ⟨rfl, _⟩ := hP; exact SqL.of hp) (fun i x σ H' hxi hP => ?_) (fun σ H' hP => ?_)
      · obtain ⟨rfl, y, rfl⟩ := hP
        have hi : i < r.length := by
          have := (List.getElem?_eq_some_iff.mp hxi).1
          omega
        have hri : r[i]? = some r[i] := List.getElem?_eq_getElem hi
        obtain ⟨px, rfl, hpx⟩ := hx i x _ hxi hri
        have hmem := List.getElem_mem hi
        have st := step_le (hbd i).1 (hpos _ hmem) (hbd i).2 (hok _ hmem).2.1
        walk_at "go"
        refine ⟨_, _, rfl, ?_⟩
        refine w_I (divZ_of (b := k) st.2.2.1 st.2.2.2 hk0 (by omega)) ?_
        walk_at "go"
        refine w_I (mulW_le st.2.1 (Nat.le_of_lt (hok _ hmem).2.1) (by omega)) ?_
        walk_at "go"
        refine ⟨rfl, some (.ref px), ?_⟩
        rw [wrB_take hri]
        rfl
      · obtain ⟨rfl, y, rfl⟩ := hP
        have e : r.take xs.length = r := List.take_of_length_le (by omega)
        rw [e]
        have hB := hbd r.length
        rw [List.take_length] at hB
        walk_at "go"
        refine w_inl ?_
        walk_at "go"
        refine ⟨p, rfl, ⟨xs, SqL.of hp⟩, fun D hD => ?_⟩
        refine lc_list (xs := xs) (fun i H'' => Same H' H'' ∧ H'' D = some (.lst (((wrT r).take i).map V.int))) ⟨Same.updD (Same.refl H') hD, upd_same⟩ (fun i H'' _ hP => SqL.of (hP.1 _ _ hp)) (fun i x H'' hxi hP => ?_) (fun H'' hP => ?_)
        · obtain ⟨sm, hD'⟩ := hP
          have hi : i < r.length := by
            have := (List.getElem?_eq_some_iff.mp hxi).1
            omega
          have hri : r[i]? = some r[i] := List.getElem?_eq_getElem hi
          obtain ⟨px, rfl, hpx⟩ := hx i x _ hxi hri
          have hpx' := sm _ _ hpx
          have hmem := List.getElem_mem hi
          have hp2 := hpos _ hmem
          walk_at "go"
          refine ⟨rfl, ?_⟩
          walk_at "go"
          refine w_I (divZ_of (b := k) (by omega) (hok _ hmem).2.1 hk0 (by omega)) ?_
          have htm : (r[i].1 * (wrB r).fdiv r[i].2) ∈ wrT r := List.mem_map.mpr ⟨_, hmem, rfl⟩
          have hq : ((wrB r).fdiv r[i].2).natAbs ≤ 2 ^ b := by
            obtain ⟨q', e'⟩ := (wrB_spec hpos).2.1 _ hmem
            have f1 : (wrB r).fdiv r[i].2 = q' := by
              rw [e']
              exact Int.mul_fdiv_cancel_left _ (by omega)
            rw [f1]
            have h2 := natAbs_fac (c := r[i].2) (q := q') (by omega)
            rw [← e'] at h2
            exact Nat.le_trans h2 hB.2
          refine w_I (mulW_le (Nat.le_of_lt (hok _ hmem).1) hq (by omega)) ?_
          refine ⟨_, hD', ?_, Same.updD sm hD, ?_⟩
          · rw [List.length_map, List.length_take]
            exact small1000 (by unfold wrT; rw [List.length_map]; omega)
          · have gz : (wrT r)[i]? = some (r[i].1 * (wrB r).fdiv r[i].2) := by
              unfold wrT
              rw [List.getElem?_map, hri]
              rfl
            rw [upd_same, List.take_add_one, gz, List.map_append]
            rfl
        · obtain ⟨sm, hD'⟩ := hP
          have e2 : (wrT r).take xs.length = wrT r := List.take_of_length_le (by unfold wrT; rw [List.length_map]; omega)
          rw [e2] at hD'
          walk_at "go"
          refine w_new (by simp) fun p1 H1 hp1 s1 h1 => ?_
          exact q p1 D _ (sm.trans s1) hD h1 (s1 _ _ hD')
theorem ok_whole_determinant {f : Addr} {fd : FuncData} (F : FnP K "whole_determinant" s_whole_determinant f fd)
    {f_head_place : Addr} {fd_head_place : FuncData} (F_head_place : FnP K "head_place" s_head_place f_head_place fd_head_place) (b_head_place : Binds K fd_head_place ["rows", "begin", "at"] []) (g_head_place : mg "head_place" = some (.ref f_head_place)) (G_head_place : FnOk P w K mg base CX0 1 f_head_place fd_head_place ["rows", "begin", "at"] (sp_head_place K))
    {f_smaller_row : Addr} {fd_smaller_row : FuncData} (F_smaller_row : FnP K "smaller_row" s_smaller_row f_smaller_row fd_smaller_row) (b_smaller_row : Binds K fd_smaller_row ["row", "head", "last"] []) (g_smaller_row : mg "smaller_row" = some (.ref f_smaller_row)) (G_smaller_row : FnOk P w K mg base CX0 1 f_smaller_row fd_smaller_row ["row", "head", "last"] (sp_smaller_row K)) (m_len : mg "len" = none) :
    FnOk P w K mg base CX0 2 f fd ["rows"] (sp_whole_determinant K) := by
  refine F.ok sc_whole_determinant (fun vs H Q E h => ?_) (fun cdv A outer s H vs Q E hr h => ?_)
  · obtain ⟨v, orig, n, A, k, rfl, hv, hon, hn1, hn, hrow, hA, hk, hk0, hk4, q⟩ := h
    rfl
  · obtain ⟨v, orig, n, A, k, rfl, hv, hon, hn1, hn, hrow, hA, hk, hk0, hk4, q⟩ := h
    refine ⟨_, PSs.nox (pss_cons (ps_set (i := 1) sc_whole_determinant.nd rfl (.inl rfl) pe_int)
        (pss_cons (ps_set (i := 2) sc_whole_determinant.nd rfl (.inr rfl) pe_int)
        (pss_cons (ps_while PassesOwn.never (pt_cmpR op_gt (pe_callB call_len_seq (by rfl) m_len (by decide +kernel) (pa_cons (pv 0) pa_nil)) pe_int (nomark _)) (pss_cons (ps_set (i := 3) sc_whole_determinant.nd rfl (.inl rfl) (pe_call G_head_place hr (by rfl) g_head_place F_head_place.kp b_head_place .nil pass0 (pa_cons (pv 0) (pa_cons pe_int (pa_cons pe_int pa_nil)))))
        (pss_cons (ps_if (pt_cmpR op_isN (pv 3) pe_non (nomark _)) (pss_one (ps_ret pe_int)) pss_nil)
        (pss_cons (ps_if (pt_cmpR op_eq (pe_op op_modN (pv 3) pe_int) pe_int (nomark _)) (pss_one (ps_set (i := 1) sc_whole_determinant.nd rfl (.inl rfl) (pe_un un_neg (pv 1)))) pss_nil)
        (pss_cons (ps_set (i := 4) sc_whole_determinant.nd rfl (.inr rfl) (pe_ix ix_list (pv 0) (pv 3) (fun _ _ => rfl)))
        (pss_cons (ps_setLc (i := 0) (own := [("row", 5)]) (g := gName 5) (tt := tYes) (by rfl) sc_whole_determinant.nd rfl rfl (sw_true rfl rfl rfl (by decide +kernel)) (pi_list (pe_op op_cat (pe_slice sl_list (pv 0) po_none (po_some (pv 3))) (pe_slice sl_list (pv 0) (po_some (pe_op op_add (pv 3) pe_int)) po_none))) (blkOk_by (own := [("row", 5)]) (N := ["rows", "sign", "last", "place", "head", "row"]) (sc := defScope s_whole_determinant) (by decide +kernel)) (fun _ _ _ _ _ => (pg_name (i := 5) sc_whole_determinant.nd rfl (.inl rfl))) (fun _ _ _ _ _ => pts_nil) (fun _ _ _ _ _ => (pe_call G_smaller_row hr (by rfl) g_smaller_row F_smaller_row.kp b_smaller_row .nil pass0 (pa_cons (pv 5) (pa_cons (pv 4) (pa_cons (pv 2) pa_nil))))))
        (pss_one (ps_set (i := 2) sc_whole_determinant.nd rfl (.inr rfl) (pe_ix ix_list (pv 4) pe_int (fun _ _ => rfl))))))))))
        (pss_one (ps_ret (pe_op op_mulW (pv 1) (pe_ix ix_list (pe_ix ix_list (pv 0) pe_int (fun _ _ => rfl)) pe_int (fun _ _ => rfl)))))))), ?_⟩
    walk_at "go"
    refine while_by (fun σ H' => ∃ (j : Nat) (rv : V) (rows : List (List Int)) (sign last : Int), (∃ y3 y4 y5, σ = [some rv, some (.int sign), some (.int last), y3, y4, y5]) ∧ Same H H' ∧ ILs H' rv rows ∧ rows.length + j = n ∧ j < n ∧ (sign = 1 ∨ sign = -1) ∧ Bst A n j orig rows sign last) (fun σ H' => match σ with | some (.ref p) :: _ => (match H' p with | some (.lst xs) => xs.length | _ => 0) | _ => 0) ⟨0, v, orig, 1, 1, ⟨_, _, _, rfl⟩, Same.refl _, hv, by omega, by omega, .inl rfl, Bst.start hon hrow⟩ (fun σ H' hP => ?_) (fun σ H' Q1 Q2 f h => ?_)
    · obtain ⟨j, rv, rows, sign, last, ⟨y3, y4, y5, rfl⟩, sm, hIL, hlj, hj, hsg, bst⟩ := hP
      obtain ⟨p, xs, rfl, hp, hacc⟩ := hIL
      obtain ⟨hbr, hbl⟩ := bst.bound hA hj
      have hb' : ∀ r ∈ rows, ∀ x, (gt r x).natAbs < 2 ^ k := fun r hr x => Nat.lt_of_le_of_lt ((hbr r hr).2 x) hk
      have hlb : last.natAbs < 2 ^ k := Nat.lt_of_le_of_lt hbl hk
      walk_at "go"
      refine ⟨p, xs, rfl, .inl (SqL.of hp), ?_⟩
      walk_at "go"
      have hxl : xs.length = rows.length := hacc.1
      refine w_ite (fun hc => ?_) (fun hc => ?_)
      · walk_at "go"
        refine ⟨.ref p, rows, 0, 0, rfl, ⟨p, xs, rfl, hp, hacc⟩, fun r hr => by rw [(hbr r hr).1]; omega, by omega, by decide, fun hz => ?_, fun place head _ hh hne => ?_⟩
        · walk_at "go"
          refine ⟨rfl, ?_⟩
          walk_at "go"
          refine w_ite (fun _ => ?_) (fun hc => absurd rfl hc)
          walk_at "go"
          have e := bst.none hj fun i r hr => hz i r (Nat.zero_le _) hr
          have q' := q _ sm
          rw [e] at q'
          exact q'
        · have hpl := (List.getElem?_eq_some_iff.mp hh).1
          have hmem := List.mem_of_getElem? hh
          have gx : xs[place]? = some (xs[place]'(by omega)) := List.getElem?_eq_getElem _
          obtain ⟨ph, eph, hph⟩ := hacc.2 place _ _ gx hh
          rw [eph] at gx
          have step := bst.step (by omega) hh hne
          have hsg' : ∀ (b : Bool), (sg place = -1 ∧ b = true) ∨ (sg place = 1 ∧ b = false) → (if b = true then -sign else sign) = sign * sg place := fun b hb => by
            rcases hb with ⟨e1, e2⟩ | ⟨e1, e2⟩
            · rw [e1, e2, if_pos rfl]
              omega
            · rw [e1, e2, if_neg Bool.false_ne_true]
              omega
          walk_at "go"
          refine ⟨rfl, ?_⟩
          walk_at "go"
          refine w_ite (fun hc => by cases hc) (fun _ => ?_)
          walk_at "go"
          refine w_I (by decide) ?_
          walk_at "go"
          have go : ∀ (sign' : Int), sign' = sign * sg place → (sign' = 1 ∨ sign' = -1) → Bst A n (j + 1) orig ((rows.eraseIdx place).map (smF last head)) sign' (gt head 0) := fun s e _ => by rw [e]; exact step
          refine w_ite (fun hpo => ?_) (fun hpo => ?_)
          · have esg : sg place = -1 := by
              unfold sg
              rw [if_neg]
              rw [fmod_pos _ (by decide)] at hpo
              omega
            have hb2 := go (-sign) (by rw [esg]; omega) (by omega)
            have hs2 : -sign = 1 ∨ -sign = -1 := by omega
            walk_at "go"
            refine w_ixL hp (atI_nat gx) ?_
            have hph' := hph
            walk_at "go"
            refine w_slL hp fun q1 H1 hq1 s1 h1 => ?_
            rw [cut_take] at h1
            walk_at "go"
            refine w_slL (s1 _ _ hp) fun q2 H2 hq2 s2 h2 => ?_
            rw [show ((place : Int) + 1) = ((place + 1 : Nat) : Int) by omega, cut_drop] at h2
            refine w_cat (s2 _ _ h1) h2 (by rw [List.length_take, List.length_drop]; omega) ?_
            refine w_newO fun q3 H3 hq3 s3 h3 => ?_
            rw [erase_cut] at h3
            have s03 := s1.trans (s2.trans s3)
            have hacc3 : Acc IL H3 (xs.eraseIdx place) (rows.eraseIdx place) (rows.eraseIdx place).length := by
              have a1 := acc_cat (acc_take (k := place) hacc rfl) (acc_drop (k := place + 1) hacc rfl)
              rw [erase_cut, erase_cut] at a1
              exact a1.mono fun x a h => IL.sm h s03
            have hel : (rows.eraseIdx place).length = rows.length - 1 := List.length_eraseIdx_of_lt hpl
            walk_at "go"
            refine ⟨q3, rfl, ⟨_, SqL.of h3⟩, fun D hD => ?_⟩
            refine lc_list (xs := xs.eraseIdx place) (fun i H4 => Same H3 H4 ∧ ∃ zs, H4 D = some (.lst zs) ∧ Acc (ILn D) H4 zs ((rows.eraseIdx place).map (smF last head)) i) ⟨Same.updD (Same.refl H3) hD, [], upd_same, Acc.nil⟩ (fun i H4 _ hP => SqL.of (hP.1 _ _ h3)) (fun i x H4 hxi hP => ?_) (fun H4 hP => ?_)
            · obtain ⟨sm4, zs, hD4, hacc4⟩ := hP
              have hi : i < (rows.eraseIdx place).length := by
                have := (List.getElem?_eq_some_iff.mp hxi).1
                rw [hacc3.1] at this
                exact this
              have gr : (rows.eraseIdx place)[i]? = some (rows.eraseIdx place)[i] := List.getElem?_eq_getElem hi
              have hmi : (rows.eraseIdx place)[i] ∈ rows := List.mem_of_mem_eraseIdx (List.getElem_mem hi)
              walk_at "go"
              refine ⟨rfl, ?_⟩
              walk_at "go"
              refine ⟨x, .ref ph, _, head, last, k, rfl, (hacc3.2 i x _ hxi gr).sm sm4, ⟨ph, rfl, sm4 _ _ (s03 _ _ hph)⟩, by rw [(hbr _ hmi).1, (hbr _ hmem).1], by rw [(hbr _ hmi).1]; omega, by rw [(hbr _ hmi).1]; omega, hb' _ hmi, hb' _ hmem, bst.ne, hlb, hk0, hk4, fun p5 H5 s5 h5 hfr => ?_⟩
              have hD5 := s5 _ _ hD4
              have np : p5 ≠ D := fun e => by rw [e, hD4] at hfr; cases hfr
              refine ⟨zs, hD5, small1000 (by rw [hacc4.1]; omega), Same.updD (sm4.trans s5) hD, _, upd_same, ?_⟩
              exact (hacc4.mono fun x a h => (h.sm s5).upd).snoc (a := smF last head (rows.eraseIdx place)[i]) (by rw [List.getElem?_map, gr]; rfl) (ILn.upd ⟨p5, rfl, np, h5⟩)
            · obtain ⟨sm4, zs, hD4, hacc4⟩ := hP
              walk_at "go"
              refine w_ixL (sm4 _ _ (s03 _ _ hph)) (gt_int (j := 0) (by rw [(hbr _ hmem).1]; omega)) ?_
              walk_at "go"
              have hacc5 : Acc IL H4 zs ((rows.eraseIdx place).map (smF last head)) ((rows.eraseIdx place).map (smF last head)).length := by
                rw [List.length_map, ← hacc3.1]
                exact acc_imp hacc4 fun x a h => ILn.il h
              refine ⟨⟨j + 1, .ref D, _, _, _, ⟨_, _, _, rfl⟩, sm.trans (s03.trans sm4), ⟨D, zs, rfl, hD4, hacc5⟩, by rw [List.length_map]; omega, by omega, hs2, hb2⟩, ?_⟩
              show (match H4 D with | some (.lst xs) => xs.length | _ => 0) < (match H' p with | some (.lst xs) => xs.length | _ => 0)
              rw [hD4, hp]
              show zs.length < xs.length
              rw [hacc4.1, hacc3.1]
              omega
          · have esg : sg place = 1 := by
              unfold sg
              rw [if_pos]
              rw [fmod_pos _ (by decide)] at hpo
              omega
            have hb2 := go sign (by rw [esg]; omega) hsg
            have hs2 := hsg
            walk_at "go"
            refine w_ixL hp (atI_nat gx) ?_
            have hph' := hph
            walk_at "go"
            refine w_slL hp fun q1 H1 hq1 s1 h1 => ?_
            rw [cut_take] at h1
            walk_at "go"
            refine w_slL (s1 _ _ hp) fun q2 H2 hq2 s2 h2 => ?_
            rw [show ((place : Int) + 1) = ((place + 1 : Nat) : Int) by omega, cut_drop] at h2
            refine w_cat (s2 _ _ h1) h2 (by rw [List.length_take, List.length_drop]; omega) ?_
            refine w_newO fun q3 H3 hq3 s3 h3 => ?_
            rw [erase_cut] at h3
            have s03 := s1.trans (s2.trans s3)
            have hacc3 : Acc IL H3 (xs.eraseIdx place) (rows.eraseIdx place) (rows.eraseIdx place).length := by
              have a1 := acc_cat (acc_take (k := place) hacc rfl) (acc_drop (k := place + 1) hacc rfl)
              rw [erase_cut, erase_cut] at a1
              exact a1.mono fun x a h => IL.sm h s03
            have hel : (rows.eraseIdx place).length = rows.length - 1 := List.length_eraseIdx_of_lt hpl
            walk_at "go"
            refine ⟨q3, rfl, ⟨_, SqL.of h3⟩, fun D hD => ?_⟩
            refine lc_list (xs := xs.eraseIdx place) (fun i H4 => Same H3 H4 ∧ ∃ zs, H4 D = some (.lst zs) ∧ Acc (ILn D) H4 zs ((rows.eraseIdx place).map (smF last head)) i) ⟨Same.updD (Same.refl H3) hD, [], upd_same, Acc.nil⟩ (fun i H4 _ hP => SqL.of (hP.1 _ _ h3)) (fun i x H4 hxi hP => ?_) (fun H4 hP => ?_)
            · obtain ⟨sm4, zs, hD4, hacc4⟩ := hP
              have hi : i < (rows.eraseIdx place).length := by
                have := (List.getElem?_eq_some_iff.mp hxi).1
                rw [hacc3.1] at this
                exact this
              have gr : (rows.eraseIdx place)[i]? = some (rows.eraseIdx place)[i] := List.getElem?_eq_getElem hi
              have hmi : (rows.eraseIdx place)[i] ∈ rows := List.mem_of_mem_eraseIdx (List.getElem_mem hi)
              walk_at "go"
              refine ⟨rfl, ?_⟩
              walk_at "go"
              refine ⟨x, .ref ph, _, head, last, k, rfl, (hacc3.2 i x _ hxi gr).sm sm4, ⟨ph, rfl, sm4 _ _ (s03 _ _ hph)⟩, by rw [(hbr _ hmi).1, (hbr _ hmem).1], by rw [(hbr _ hmi).1]; omega, by rw [(hbr _ hmi).1]; omega, hb' _ hmi, hb' _ hmem, bst.ne, hlb, hk0, hk4, fun p5 H5 s5 h5 hfr => ?_⟩
              have hD5 := s5 _ _ hD4
              have np : p5 ≠ D := fun e => by rw [e, hD4] at hfr; cases hfr
              refine ⟨zs, hD5, small1000 (by rw [hacc4.1]; omega), Same.updD (sm4.trans s5) hD, _, upd_same, ?_⟩
              exact (hacc4.mono fun x a h => (h.sm s5).upd).snoc (a := smF last head (rows.eraseIdx place)[i]) (by rw [List.getElem?_map, gr]; rfl) (ILn.upd ⟨p5, rfl, np, h5⟩)
            · obtain ⟨sm4, zs, hD4, hacc4⟩ := hP
              walk_at "go"
              refine w_ixL (sm4 _ _ (s03 _ _ hph)) (gt_int (j := 0) (by rw [(hbr _ hmem).1]; omega)) ?_
              walk_at "go"
              have hacc5 : Acc IL H4 zs ((rows.eraseIdx place).map (smF last head)) ((rows.eraseIdx place).map (smF last head)).length := by
                rw [List.length_map, ← hacc3.1]
                exact acc_imp hacc4 fun x a h => ILn.il h
              refine ⟨⟨j + 1, .ref D, _, _, _, ⟨_, _, _, rfl⟩, sm.trans (s03.trans sm4), ⟨D, zs, rfl, hD4, hacc5⟩, by rw [List.length_map]; omega, by omega, hs2, hb2⟩, ?_⟩
              show (match H4 D with | some (.lst xs) => xs.length | _ => 0) < (match H' p with | some (.lst xs) => xs.length | _ => 0)
              rw [hD4, hp]
              show zs.length < xs.length
              rw [hacc4.1, hacc3.1]
              omega
      · have hr1 : rows.length = 1 := by omega
        have g0 : rows[0]? = some (rows[0]'(by omega)) := List.getElem?_eq_getElem _
        have gx0 : xs[0]? = some (xs[0]'(by omega)) := List.getElem?_eq_getElem _
        obtain ⟨p0, e0, hp0⟩ := hacc.2 0 _ _ gx0 g0
        rw [e0] at gx0
        have hm0 := List.mem_of_getElem? g0
        have e := bst.done (by omega) g0
        walk_at "go"
        refine w_ixL hp (atI_nat (j := 0) gx0) ?_
        walk_at "go"
        refine w_ixL hp0 (gt_int (j := 0) (by rw [(hbr _ hm0).1]; omega)) ?_
        walk_at "go"
        refine w_I (wide_mul (a := 1) (b := k) (by rcases hsg with rfl | rfl <;> decide) (hb' _ hm0 0) (by decide) hk0 (by omega)) ?_
        walk_at "go"
        rw [e]
        exact q _ sm
    · obtain ⟨v1, hv1, p', ys, e1, e2, i, j, e3, e4, k, e5, h2⟩ := h
      exact ⟨v1, hv1, p', ys, e1, e2, i, j, e3, e4, k, e5, f _ _ h2⟩
theorem ok_show_row {f : Addr} {fd : FuncData} (F : FnP K "show_row" s_show_row f fd)
    {f_show_number : Addr} {fd_show_number : FuncData} (F_show_number : FnP K "show_number" s_show_number f_show_number fd_show_number) (b_show_number : Binds K fd_show_number ["x"] []) (g_show_number : mg "show_number" = some (.ref f_show_number)) (G_show_number : FnOk P w K mg base CX0 1 f_show_number fd_show_number ["x"] (sp_show_number K)) :
    FnOk P w K mg base CX0 2 f fd ["row"] (sp_show_row K) := by
  refine F.ok sc_show_row (fun vs H Q E h => ?_) (fun cdv A outer s H vs Q E hr h => ?_)
  · obtain ⟨v, r, rfl, hv, hs, hl, q⟩ := h
    rfl
  · obtain ⟨v, r, rfl, hv, hs, hl, q⟩ := h
    refine ⟨_, PSs.nox (pss_one (ps_ret (pe_join pe_str (pe_lc (own := [("x", 1)]) (g := gName 1) (tt := tYes) (by rfl) sc_show_row.nd (pi_tup (pv 0)) (blkOk_by (own := [("x", 1)]) (N := ["row", "x"]) (sc := defScope s_show_row) (by decide +kernel)) (fun _ _ _ _ _ => (pg_name (i := 1) sc_show_row.nd rfl (.inl rfl))) (fun _ _ _ _ _ => pts_nil) (fun _ _ _ _ _ => (pe_call G_show_number hr (by rfl) g_show_number F_show_number.kp b_show_number .nil pass0 (pa_cons (pv 1) pa_nil))))))), ?_⟩
    obtain ⟨p, xs, rfl, hp, hlx, hx⟩ := hv
    walk_at "go"
    refine ⟨⟨_, rfl⟩, ?_⟩
    walk_at "go"
    refine ⟨p, rfl, ⟨xs, SqT.of hp⟩, fun D hD => ?_⟩
    refine lc_tup (xs := xs) (fun i H' => Same H H' ∧ H' D = some (.lst (((r.take i).map numT).map V.str))) ⟨Same.updD (Same.refl H) hD, upd_same⟩ (fun i H' _ hP => SqT.of (hP.1 _ _ hp)) (fun i x H' hxi hP => ?_) (fun H' hP => ?_)
    · obtain ⟨sm, hD'⟩ := hP
      have hi : i < r.length := by
        have := (List.getElem?_eq_some_iff.mp hxi).1
        omega
      have hri : r[i]? = some r[i] := List.getElem?_eq_getElem hi
      walk_at "go"
      refine ⟨rfl, ?_⟩
      walk_at "go"
      refine ⟨x, r[i], rfl, (hx i x _ hxi hri).kt (Kt.of sm), hs _ (List.getElem_mem hi), ?_⟩
      refine ⟨_, hD', ?_, Same.updD sm hD, ?_⟩
      · rw [List.length_map, List.length_map, List.length_take]
        exact small1000 (by omega)
      · rw [upd_same, List.take_add_one, hri, List.map_append, List.map_append]
        rfl
    · obtain ⟨sm, hD'⟩ := hP
      have e : r.take xs.length = r := List.take_of_length_le (by omega)
      rw [e] at hD'
      refine ⟨_, D, r.map numT, rfl, rfl, .inl (SqL.of hD'), ?_, q _ sm⟩
      have h1 := sum_le (n := 3900) (ys := r.map numT) fun y hy => by
        obtain ⟨a, ha, rfl⟩ := List.mem_map.mp hy
        exact numT_ok (hs a ha)
      have h2 : (" " : Str).length = 1 := by decide
      rw [List.length_map] at h1 ⊢
      rw [h2]
      omega
theorem ok_number_part {f : Addr} {fd : FuncData} (F : FnP K "number_part" s_number_part f fd)
    {f_show_number : Addr} {fd_show_number : FuncData} (F_show_number : FnP K "show_number" s_show_number f_show_number fd_show_number) (b_show_number : Binds K fd_show_number ["x"] []) (g_show_number : mg "show_number" = some (.ref f_show_number)) (G_show_number : FnOk P w K mg base CX0 1 f_show_number fd_show_number ["x"] (sp_show_number K))
    {f_are_figures : Addr} {fd_are_figures : FuncData} (F_are_figures : FnP K "are_figures" s_are_figures f_are_figures fd_are_figures) (b_are_figures : Binds K fd_are_figures ["text"] []) (g_are_figures : mg "are_figures" = some (.ref f_are_figures)) (G_are_figures : FnOk P w K mg base CX0 1 f_are_figures fd_are_figures ["text"] (sp_are_figures K)) (m_int : mg "int" = none) :
    FnOk P w K mg base CX0 2 f fd ["word"] (sp_number_part K) := by
  refine F.ok sc_number_part (fun vs H Q E h => ?_) (fun cdv A outer s H vs Q E hr h => ?_)
  · obtain ⟨w, rfl, hw, hsm, q⟩ := h
    rfl
  · obtain ⟨w, rfl, hw, hsm, q⟩ := h
    refine ⟨_, PSs.nox (pss_cons (ps_asg (pe_partition (pe_m1 PySem.F.slot_str_removeprefix PySem.F.type_str_removeprefix mt_removeprefix (pv 0) pe_str) pe_str) (pg_tup rfl (pgs_cons (pg_name (i := 1) sc_number_part.nd rfl (.inl rfl)) (pgs_cons (pg_name (i := 2) sc_number_part.nd rfl (.inl rfl)) (pgs_cons (pg_name (i := 3) sc_number_part.nd rfl (.inl rfl)) pgs_nil)))))
        (C8.pss_cut (ps_if (pt_not (pt_tru (pv 2) (fun _ => rfl))) (pss_one (ps_set (i := 3) sc_number_part.nd rfl (.inl rfl) pe_str)) pss_nil)
        (pss_cons (ps_if (PW.pt (pw_or (pt_not (pt_val (pe_call G_are_figures hr (by rfl) g_are_figures F_are_figures.kp b_are_figures .nil pass0 (pa_cons (pv 1) pa_nil)))) (pw_or1 (pt_not (pt_val (pe_call G_are_figures hr (by rfl) g_are_figures F_are_figures.kp b_are_figures .nil pass0 (pa_cons (pv 3) pa_nil))))))) (pss_one (ps_ret pe_non)) pss_nil)
        (pss_cons (ps_set (i := 4) sc_number_part.nd rfl (.inl rfl) (pe_tup (pa_cons (pe_callTy call_int_str (by rfl) m_int (by decide +kernel) (pa_cons (pv 1) pa_nil)) (pa_cons (pe_callTy call_int_str (by rfl) m_int (by decide +kernel) (pa_cons (pv 3) pa_nil)) pa_nil))))
        (C8.pss_cut (ps_if (pt_val (pe_m1 PySem.F.slot_str_startswith PySem.F.type_str_startswith mt_startswith (pv 0) pe_str)) (pss_one (ps_set (i := 4) sc_number_part.nd rfl (.inl rfl) (pe_tup (pa_cons (pe_un un_neg (pe_ix ix_tup (pv 4) pe_int (fun _ _ => rfl))) (pa_cons (pe_ix ix_tup (pv 4) pe_int (fun _ _ => rfl)) pa_nil))))) pss_nil)
        (pss_cons (ps_if (pt_cmpR op_ne (pe_call G_show_number hr (by rfl) g_show_number F_show_number.kp b_show_number .nil pass0 (pa_cons (pv 4) pa_nil)) (pv 0) (nomark _)) (pss_one (ps_ret pe_non)) pss_nil)
        (pss_one (ps_ret (pv 4))))))))), ?_⟩
    have zl : (1000000 : Nat) ≤ sizeLine := by decide
    have ⟨l1, l2, l4⟩ := cutN_len w
    have l3 := unm_len w
    walk_at "go"
    refine ⟨⟨_, rfl⟩, ?_⟩
    walk_at "go"
    refine ⟨_, _, rfl, rfl, by omega, ?_⟩
    walk_at "go"
    refine ⟨⟨_, rfl⟩, ?_⟩
    walk_at "go"
    refine ⟨_, _, rfl, rfl, by decide, by omega, fun p hp => ?_⟩
    generalize ez : Txt.partition (Txt.removeprefix w (Str.ofString "-")) (Str.ofString "/") = z
    obtain ⟨top, over, bot⟩ := z
    have ec : cutN w = (top, over, bot) := ez
    rw [ec] at l1 l2 l4
    have eb : botN w = if over.length = 0 then Str.ofString "1" else bot := by unfold botN; rw [ec]
    have s1 := Same.upd (Same.refl H) (o := .tup [.str top, .str over, .str bot]) hp
    have hp1 : (upd H p (.tup [.str top, .str over, .str bot])) p = some (.tup [.str top, .str over, .str bot]) := upd_same
    dsimp only
    revert s1 hp1
    generalize upd H p (.tup [.str top, .str over, .str bot]) = H1
    intro s1 hp1
    clear ez l3
    walk_at "go"
    have lb : (botN w).length ≤ 1000000 := by
      rw [eb]
      split
      · decide
      · exact Nat.le_trans l2 hw
    refine w_cut (fun σ' H' => σ' = [some (.str w), some (.str top), some (.str over), some (.str (botN w)), none] ∧ H' = H1) ?_ (fun σ' H' hM => ?_)
    · walk_at "go"
      refine ⟨!(over.length == 0), ?_, ?_⟩
      · exact ⟨Nat.le_trans l4 (by decide), by cases over.length <;> rfl⟩
      · rw [Bool.not_not]
        refine w_iteB (fun h => ?_) (fun h => ?_)
        · walk_at "go"
          refine ⟨?_, rfl⟩
          rw [eb, if_pos (eq_of_beq h)]
          rfl
        · walk_at "go"
          refine ⟨?_, rfl⟩
          rw [eb, if_neg (ne_of_beq_false h)]
          rfl
    obtain ⟨rfl, rfl⟩ := hM
    walk_at "go"
    refine ⟨top, rfl, Nat.le_trans l1 hw, _, rfl, ?_⟩
    have et : (cutN w).1 = top := by rw [ec]
    refine w_iteBN (fun h => ?_) (fun h => ?_)
    · refine w_iteB (fun _ => ?_) (fun z => absurd z (by decide))
      walk_at "go"
      refine q _ _ s1 ?_
      unfold partN
      rw [if_neg (fun z => by rw [et, h] at z; cases z.1)]
      exact rfl
    walk_at "go"
    refine ⟨botN w, rfl, lb, _, rfl, ?_⟩
    refine w_iteBN (fun h2 => ?_) (fun h2 => ?_)
    · walk_at "go"
      refine q _ _ s1 ?_
      unfold partN
      rw [if_neg (fun z => by rw [h2] at z; cases z.2)]
      exact rfl
    obtain ⟨t1, t2, _, _⟩ := fig_int h
    obtain ⟨b1, b2, _, _⟩ := fig_int h2
    walk_at "go"
    refine ⟨_, _, rfl, t1, t2, ?_⟩
    walk_at "go"
    refine ⟨_, _, rfl, b1, b2, ?_⟩
    walk_at "go"
    refine w_new (by simp) fun px H2 hpx s2 hp2 => ?_
    walk_at "go"
    have es : sgnN w = if Txt.startswith w (Str.ofString "-") = true then (-(digV top), digV (botN w)) else (digV top, digV (botN w)) := by
      unfold sgnN
      rw [et]
    refine w_cut (fun σ' H' => ∃ v, σ' = [some (.str w), some (.str top), some (.str over), some (.str (botN w)), some v] ∧ Same H2 H' ∧ NumV H' v (sgnN w)) ?_ (fun σ' H' hM => ?_)
    · walk_at "go"
      refine ⟨⟨_, rfl⟩, ?_⟩
      walk_at "go"
      refine ⟨_, _, rfl, rfl, _, rfl, ?_⟩
      refine w_iteB (fun hw2 => ?_) (fun hw2 => ?_)
      · walk_at "go"
        refine w_new (by simp) fun py H3 hpy s3 hp3 => ?_
        walk_at "go"
        exact ⟨_, rfl, s3, py, rfl, by rw [es, if_pos hw2]; exact hp3⟩
      · walk_at "go"
        exact ⟨_, rfl, Same.refl _, px, rfl, by rw [es, if_neg (by rw [hw2]; decide)]; exact hp2⟩
    obtain ⟨v, rfl, s3, hv⟩ := hM
    walk_at "go"
    refine ⟨v, sgnN w, rfl, hv, hsm (by rw [et]; exact h) h2, ?_⟩
    walk_at "go"
    refine w_neStr ?_
    walk_at "go"
    have epn : partN w = if numT (sgnN w) = w then some (sgnN w) else none := by
      unfold partN
      rw [if_pos ⟨by rw [et]; exact h, h2⟩]
    by_cases he : numT (sgnN w) = w
    · rw [decide_eq_true he, Bool.not_true]
      refine w_iteB (fun z => absurd z (by decide)) (fun _ => ?_)
      walk_at "go"
      refine q _ _ (s1.trans (s2.trans s3)) ?_
      rw [epn, if_pos he]
      exact hv
    · rw [decide_eq_false he, Bool.not_false]
      refine w_iteB (fun _ => ?_) (fun z => absurd z (by decide))
      walk_at "go"
      refine q _ _ (s1.trans (s2.trans s3)) ?_
      rw [epn, if_neg he]
      exact rfl
theorem ok__law_low {f : Addr} {fd : FuncData} (F : FnP K "_law_low" s__law_low f fd)
    {f__law_shared : Addr} {fd__law_shared : FuncData} (F__law_shared : FnP K "_law_shared" s__law_shared f__law_shared fd__law_shared) (b__law_shared : Binds K fd__law_shared ["_law_one", "_law_other"] []) (g__law_shared : mg "_law_shared" = some (.ref f__law_shared)) (G__law_shared : FnOk P w K mg base CX0 1 f__law_shared fd__law_shared ["_law_one", "_law_other"] (sp__law_shared K)) (m_range : mg "range" = none) (m_int : mg "int" = none) :
    FnOk P w K mg base CX0 2 f fd ["_law_g", "_law_up", "_law_down"] (sp__law_low K) := by
  refine F.ok sc__law_low (fun vs H Q E h => ?_) (fun cdv A outer s H vs Q E hr h => ?_)
  · obtain ⟨g, u, d, rfl, hg0, hg, hd, hz, q⟩ := h
    rfl
  · obtain ⟨g, u, d, rfl, hg0, hg, hd, hz, q⟩ := h
    refine ⟨_, PSs.nox (pss_cons (ps_if (pt_cmpR op_gt (pv 0) pe_int (nomark _)) (pss_one (ps_for PassesOwn.never rfl (pi_range1 (by rfl) m_range (pa_cons (pv 0) pa_nil)) (pg_name (i := 3) sc__law_low.nd rfl (.inl rfl)) (pss_one (ps_if (pt_cmpR op_eq (pe_op op_modN (pe_op op_mul (pv 3) (pv 2)) (pv 0)) (pe_op op_modN (pv 1) (pv 0)) (nomark _)) (pss_one (ps_ret (pe_tup (pa_cons (pv 3) (pa_cons pe_int pa_nil))))) pss_nil)))) pss_nil)
        (pss_cons (ps_set (i := 4) sc__law_low.nd rfl (.inl rfl) (pe_op op_mul (pe_call G__law_shared hr (by rfl) g__law_shared F__law_shared.kp b__law_shared .nil pass0 (pa_cons (pv 1) (pa_cons (pv 2) pa_nil))) (pe_ix ix_list (pe_lst (pa_cons pe_int (pa_cons (pe_un un_neg pe_int) pa_nil))) (pe_callTy call_int1 (by rfl) m_int (by decide +kernel) (pa_cons (pe_cmpR op_lt (pv 2) pe_int (nomark _)) pa_nil)) (fun _ _ => rfl))))
        (pss_one (ps_ret (pe_tup (pa_cons (pe_op op_fdivZ (pv 1) (pv 4)) (pa_cons (pe_op op_fdivZ (pv 2) (pv 4)) pa_nil))))))), ?_⟩
    walk_at "go"
    refine w_ite (fun hc => ?a) (fun hc => ?b)
    case' a =>
      walk_at "go"
      refine ⟨by omega, by omega, ?_⟩
      refine for_range (fun i σ H' => H' = H ∧ (∃ y y2, σ = [some (.int g), some (.int u), some (.int d), y, y2]) ∧ ∀ j : Nat, j < i → ¬ ((j : Int) * d).fmod g = u.fmod g) ⟨rfl, ⟨none, none, rfl⟩, fun j hj => absurd hj (Nat.not_lt_zero _)⟩ (fun i σ H' hi hP => ?s1) (fun σ H' hP => ?s2)
    case' s1 =>
      obtain ⟨rfl, ⟨y, y2, rfl⟩, hn⟩ := hP
      walk_at "go"
      rw [Int.zero_add]
      refine w_I (.inl ⟨by omega, by omega⟩) ?_
      walk_at "go"
      refine w_I (by omega) ?_
      walk_at "go"
      refine w_I (by omega) ?_
      walk_at "go"
      refine w_ite (fun hc2 => ?_) (fun hc2 => ?_)
      · walk_at "go"
        refine w_new (by simp) fun p1 H1 hp1 s1 h1 => ?_
        refine q p1 H1 hp1 s1 ?_
        have e : lowF g u d = ((i : Int), 1) := by
          unfold lowF
          rw [lowI_some hi hc2 hn]
        rw [e]
        exact h1
      · walk_at "go"
        refine ⟨rfl, ⟨_, _, rfl⟩, fun j hj => ?_⟩
        by_cases e : j = i
        · rw [e]; exact hc2
        · exact hn j (by omega)
    case' s2 =>
      obtain ⟨rfl, ⟨y, y2, rfl⟩, hn⟩ := hP
      have hI : lowI g u d = none := lowI_none hn
    case' b =>
      have hI : lowI g u d = none := lowI_none (fun j hj => by omega)
    all_goals
      walk_at "go"
      refine ⟨u, d, rfl, ?_⟩
      walk_at "go"
      refine w_new (by simp) fun p1 H1 hp1 s1 h1 => ?_
      walk_at "go"
      refine .inr ⟨_, rfl, ?_⟩
      refine w_ixL h1 (low_sign d) ?_
      refine w_I (.inr (by split <;> decide)) ?_
      walk_at "go"
      refine w_I (low_cb hd hz _) ?_
      walk_at "go"
      refine w_I (low_cb hd hz _) ?_
      walk_at "go"
      refine w_new (by simp) fun p2 H2 hp2 s2 h2 => ?_
      refine q p2 H2 (s1.free hp2) (s1.trans s2) ?_
      have e : lowF g u d = (u.fdiv (lowC u d), d.fdiv (lowC u d)) := by
        unfold lowF
        rw [hI]
      rw [e]
      exact h2
theorem ok__law_ground {f : Addr} {fd : FuncData} (F : FnP K "_law_ground" s__law_ground f fd)
    {f__law_take : Addr} {fd__law_take : FuncData} (F__law_take : FnP K "_law_take" s__law_take f__law_take fd__law_take) (b__law_take : Binds K fd__law_take ["_law_bag_here", "_law_many"] []) (g__law_take : mg "_law_take" = some (.ref f__law_take)) (G__law_take : FnOk P w K mg base CX0 1 f__law_take fd__law_take ["_law_bag_here", "_law_many"] (sp__law_take K)) :
    FnOk P w K mg base CX0 2 f fd ["_law_bag_here"] (sp__law_ground K) := by
  refine F.ok sc__law_ground (fun vs H Q E h => ?_) (fun cdv A outer s H vs Q E hr h => ?_)
  · obtain ⟨b, rfl, hb, q⟩ := h
    rfl
  · obtain ⟨b, rfl, hb, q⟩ := h
    refine ⟨_, PSs.nox (pss_one (ps_ret (pe_ix ix_list (pe_lst (pa_cons pe_int (pa_cons pe_int (pa_cons pe_int (pa_cons pe_int (pa_cons pe_int (pa_cons pe_int (pa_cons pe_int (pa_cons (pe_ix ix_list (pe_lst (pa_cons pe_int (pa_cons pe_int (pa_cons pe_int pa_nil)))) (pe_call G__law_take hr (by rfl) g__law_take F__law_take.kp b__law_take .nil pass0 (pa_cons (pv 0) (pa_cons pe_int pa_nil))) (fun _ _ => rfl)) pa_nil))))))))) (pe_call G__law_take hr (by rfl) g__law_take F__law_take.kp b__law_take .nil pass0 (pa_cons (pv 0) (pa_cons pe_int pa_nil))) (fun _ _ => rfl)))), ?_⟩
    walk_at "go"
    refine w_new (by simp) fun p1 H1 hp1 s1 h1 => ?_
    walk_at "go"
    refine ⟨b, 3, rfl, by decide, by decide, hb.same s1, fun H2 d hd0 hd1 mv2 hb2 => ?_⟩
    obtain ⟨m, em, hm⟩ := gr_three hd0 hd1
    have n1 : p1 ≠ b := fun e => by
      subst e
      obtain ⟨A, B, h2, _⟩ := hb
      rw [hp1] at h2
      cases h2
    refine w_ixL (mv2 _ _ n1 h1) em ?_
    walk_at "go"
    refine w_new (by simp) fun p3 H3 hp3 s3 h3 => ?_
    walk_at "go"
    refine ⟨b, 8, rfl, by decide, by decide, hb2.same s3, fun H4 e he0 he1 mv4 hb4 => ?_⟩
    obtain ⟨g, eg, hg⟩ := gr_eight he0 he1 hm
    have n3 : p3 ≠ b := fun e => by
      subst e
      obtain ⟨A, B, h2, _⟩ := hb2
      rw [hp3] at h2
      cases h2
    refine w_ixL (mv4 _ _ n3 h3) eg ?_
    exact q _ _ hg ((Mv.same s1).trans (mv2.trans ((Mv.same s3).trans mv4))) hb4
theorem ok__law_letters {f : Addr} {fd : FuncData} (F : FnP K "_law_letters" s__law_letters f fd)
    {f__law_take : Addr} {fd__law_take : FuncData} (F__law_take : FnP K "_law_take" s__law_take f__law_take fd__law_take) (b__law_take : Binds K fd__law_take ["_law_bag_here", "_law_many"] []) (g__law_take : mg "_law_take" = some (.ref f__law_take)) (G__law_take : FnOk P w K mg base CX0 1 f__law_take fd__law_take ["_law_bag_here", "_law_many"] (sp__law_take K)) (m_int : mg "int" = none) :
    FnOk P w K mg base CX0 2 f fd ["_law_bag_here", "_law_g"] (sp__law_letters K) := by
  refine F.ok sc__law_letters (fun vs H Q E h => ?_) (fun cdv A outer s H vs Q E hr h => ?_)
  · obtain ⟨b, g, rfl, hgr, hb, q⟩ := h
    rfl
  · obtain ⟨b, g, rfl, hgr, hb, q⟩ := h
    refine ⟨_, PSs.nox (pss_one (ps_ret (pe_ix ix_list (pe_lst (pa_cons pe_int (pa_cons pe_int (pa_cons pe_int (pa_cons pe_int (pa_cons pe_int (pa_cons pe_int (pa_cons pe_int (pa_cons (pe_op op_add pe_int (pe_callTy call_int1 (by rfl) m_int (by decide +kernel) (pa_cons (pe_cmpR op_eq (pv 1) pe_int (nomark _)) pa_nil))) pa_nil))))))))) (pe_call G__law_take hr (by rfl) g__law_take F__law_take.kp b__law_take .nil pass0 (pa_cons (pv 0) (pa_cons pe_int pa_nil))) (fun _ _ => rfl)))), ?_⟩
    walk_at "go"
    refine .inr ⟨_, rfl, ?_⟩
    walk_at "go"
    refine w_new (by simp) fun p1 H1 hp1 s1 h1 => ?_
    have nb := bag_ne hb hp1
    walk_at "go"
    refine ⟨b, 8, rfl, by decide, by decide, hb.same s1, fun H2 d h20 h21 m2 hb2 => ?_⟩
    have hE : ∃ e : Int, (4 + (if decide (g = 0) = true then (1 : Int) else 0)) = e ∧ (e = 4 ∨ e = 5) ∧ (g ≠ 0 → e = 4) := by
      by_cases h : g = 0
      · exact ⟨5, by rw [decide_eq_true h]; rfl, .inr rfl, fun z => absurd h z⟩
      · exact ⟨4, by rw [decide_eq_false h]; rfl, .inl rfl, fun _ => rfl⟩
    obtain ⟨e, he1, he2, he3⟩ := hE
    rw [he1] at h1
    obtain ⟨m, hm, hm1, hm2⟩ := pick_let h20 h21 he2
    refine w_ixL (m2 _ _ nb h1) hm ?_
    exact q _ m hm1 (by omega) (fun z => by have := he3 z; omega) ((Mv.same s1).trans m2) hb2
theorem ok__law_row_text {f : Addr} {fd : FuncData} (F : FnP K "_law_row_text" s__law_row_text f fd)
    {f__law_number_text : Addr} {fd__law_number_text : FuncData} (F__law_number_text : FnP K "_law_number_text" s__law_number_text f__law_number_text fd__law_number_text) (b__law_number_text : Binds K fd__law_number_text ["_law_x"] []) (g__law_number_text : mg "_law_number_text" = some (.ref f__law_number_text)) (G__law_number_text : FnOk P w K mg base CX0 1 f__law_number_text fd__law_number_text ["_law_x"] (sp__law_number_text K)) :
    FnOk P w K mg base CX0 2 f fd ["_law_row"] (sp__law_row_text K) := by
  refine F.ok sc__law_row_text (fun vs H Q E h => ?_) (fun cdv A outer s H vs Q E hr h => ?_)
  · obtain ⟨v, r, rfl, hv, hs, hl, q⟩ := h
    rfl
  · obtain ⟨v, r, rfl, hv, hs, hl, q⟩ := h
    refine ⟨_, PSs.nox (pss_one (ps_ret (pe_join pe_str (pe_lc (own := [("_law_x", 1)]) (g := gName 1) (tt := tYes) (by rfl) sc__law_row_text.nd (pi_tup (pv 0)) (blkOk_by (own := [("_law_x", 1)]) (N := ["_law_row", "_law_x"]) (sc := defScope s__law_row_text) (by decide +kernel)) (fun _ _ _ _ _ => (pg_name (i := 1) sc__law_row_text.nd rfl (.inl rfl))) (fun _ _ _ _ _ => pts_nil) (fun _ _ _ _ _ => (pe_call G__law_number_text hr (by rfl) g__law_number_text F__law_number_text.kp b__law_number_text .nil pass0 (pa_cons (pv 1) pa_nil))))))), ?_⟩
    obtain ⟨p, xs, rfl, hp, hlx, hx⟩ := hv
    walk_at "go"
    refine ⟨⟨_, rfl⟩, ?_⟩
    walk_at "go"
    refine ⟨p, rfl, ⟨xs, SqT.of hp⟩, fun D hD => ?_⟩
    refine lc_tup (xs := xs) (fun i H' => Same H H' ∧ H' D = some (.lst (((r.take i).map numT).map V.str))) ⟨Same.updD (Same.refl H) hD, upd_same⟩ (fun i H' _ hP => SqT.of (hP.1 _ _ hp)) (fun i x H' hxi hP => ?_) (fun H' hP => ?_)
    · obtain ⟨sm, hD'⟩ := hP
      have hi : i < r.length := by
        have := (List.getElem?_eq_some_iff.mp hxi).1
        omega
      have hri : r[i]? = some r[i] := List.getElem?_eq_getElem hi
      walk_at "go"
      refine ⟨rfl, ?_⟩
      walk_at "go"
      refine ⟨x, r[i], rfl, (hx i x _ hxi hri).kt (Kt.of sm), hs _ (List.getElem_mem hi), ?_⟩
      refine ⟨_, hD', ?_, Same.updD sm hD, ?_⟩
      · rw [List.length_map, List.length_map, List.length_take]
        exact small1000 (by omega)
      · rw [upd_same, List.take_add_one, hri, List.map_append, List.map_append]
        rfl
    · obtain ⟨sm, hD'⟩ := hP
      have e : r.take xs.length = r := List.take_of_length_le (by omega)
      rw [e] at hD'
      refine ⟨_, D, r.map numT, rfl, rfl, .inl (SqL.of hD'), ?_, q _ sm⟩
      have h1 := sum_le (n := 3900) (ys := r.map numT) fun y hy => by
        obtain ⟨a, ha, rfl⟩ := List.mem_map.mp hy
        exact numT_ok (hs a ha)
      have h2 : (" " : Str).length = 1 := by decide
      rw [List.length_map] at h1 ⊢
      rw [h2]
      omega
theorem ok_is_row {f : Addr} {fd : FuncData} (F : FnP K "is_row" s_is_row f fd)
    {f_is_number : Addr} {fd_is_number : FuncData} (F_is_number : FnP K "is_number" s_is_number f_is_number fd_is_number) (b_is_number : Binds K fd_is_number ["ground", "thing"] []) (g_is_number : mg "is_number" = some (.ref f_is_number)) (G_is_number : FnOk P w K mg base CX0 2 f_is_number fd_is_number ["ground", "thing"] (sp_is_number K)) (m_all : mg "all" = none) (m_isinstance : mg "isinstance" = none) (m_tuple : mg "tuple" = none) (m_len : mg "len" = none) :
    FnOk P w K mg base CX0 3 f fd ["ground", "thing", "many"] (sp_is_row K) := by
  refine F.ok sc_is_row (fun vs H Q E h => ?_) (fun cdv A outer s H vs Q E hr h => ?_)
  · obtain ⟨g, v, m, kb, nb, rfl, hv, q⟩ := h
    rfl
  · obtain ⟨g, v, m, kb, nb, rfl, hv, q⟩ := h
    refine ⟨_, PSs.nox (pss_cons (ps_if (PW.pt (pw_or (pt_not (pt_val (pe_callB call_isi (by rfl) m_isinstance (by decide +kernel) (pa_cons (pv 1) (pa_cons (pe_bltn (v := .ty "tuple") (by rfl) m_tuple (by decide +kernel) rfl) pa_nil))))) (pw_or1 (pt_cmpR op_ne (pe_callB call_len_seq (by rfl) m_len (by decide +kernel) (pa_cons (pv 1) pa_nil)) (pv 2) (nomark _))))) (pss_one (ps_ret pe_bl)) pss_nil)
        (pss_one (ps_ret (pe_callB (cr_all rfl) (by rfl) m_all (by decide +kernel) (pa_cons (pe_lc (own := [("x", 3)]) (g := gName 3) (tt := tYes) (by rfl) sc_is_row.nd (pi_tup (pv 1)) (blkOk_by (own := [("x", 3)]) (N := ["ground", "thing", "many", "x"]) (sc := defScope s_is_row) (by decide +kernel)) (fun _ _ _ _ _ => (pg_name (i := 3) sc_is_row.nd rfl (.inl rfl))) (fun _ _ _ _ _ => pts_nil) (fun _ _ _ _ _ => (pe_call G_is_number hr (by rfl) g_is_number F_is_number.kp b_is_number .nil pass0 (pa_cons (pv 0) (pa_cons (pv 3) pa_nil))))) pa_nil))))), ?_⟩
    walk_at "go"
    refine tb_tup hv (fun p xs e hp hz hx => ?_) (fun hn => ?_)
    · subst e
      rw [rowOf_tup hp] at q
      walk_at "go"
      refine iteF ?_
      walk_at "go"
      refine ⟨p, xs, rfl, .inr (SqT.of hp), ?_⟩
      walk_at "go"
      refine w_iteN (fun hl => ?_) (fun hl => ?_)
      · walk_at "go"
        rw [decide_eq_false hl] at q
        exact q _ (Same.refl _)
      · rw [decide_eq_true hl] at q
        walk_at "go"
        refine ⟨p, rfl, ⟨xs, SqT.of hp⟩, fun D hD => ?_⟩
        refine lc_tup (xs := xs) (fun i H' => Same H H' ∧ H' D = some (.lst (((xs.map (numOf H g)).take i).map V.bl))) ⟨Same.updD (Same.refl H) hD, upd_same⟩ (fun i H' _ hP => SqT.of (hP.1 _ _ hp)) (fun i x H' hxi hP => ?_) (fun H' hP => ?_)
        · obtain ⟨sm, hD'⟩ := hP
          have hmem := List.mem_of_getElem? hxi
          walk_at "go"
          refine ⟨rfl, ?_⟩
          walk_at "go"
          refine ⟨g, x, kb, nb, rfl, (hx x hmem).kd (Kd.of sm), ?_⟩
          rw [numOf_tb (hx x hmem) (Kd.of sm)]
          refine ⟨_, hD', ?_, Same.updD sm hD, ?_⟩
          · rw [List.length_map]
            exact small1000 (Nat.le_trans (List.length_take_le' _ _) (by rw [List.length_map]; omega))
          · rw [upd_same, List.take_add_one, List.getElem?_map, hxi, List.map_append]
            rfl
        · obtain ⟨sm, hD'⟩ := hP
          walk_at "go"
          rw [List.take_of_length_le (by rw [List.length_map]; exact Nat.le_refl _)] at hD'
          refine ⟨D, _, rfl, SqL.of hD', ?_⟩
          rw [all_map]
          exact q _ sm
    · rw [rowOf_no hn] at q
      walk_at "go"
      refine iteT ?_
      walk_at "go"
      exact q _ (Same.refl _)
theorem ok_determinant {f : Addr} {fd : FuncData} (F : FnP K "determinant" s_determinant f fd)
    {f_lowest : Addr} {fd_lowest : FuncData} (F_lowest : FnP K "lowest" s_lowest f_lowest fd_lowest) (b_lowest : Binds K fd_lowest ["ground", "top", "bottom"] []) (g_lowest : mg "lowest" = some (.ref f_lowest)) (G_lowest : FnOk P w K mg base CX0 2 f_lowest fd_lowest ["ground", "top", "bottom"] (sp_lowest K))
    {f_whole_row : Addr} {fd_whole_row : FuncData} (F_whole_row : FnP K "whole_row" s_whole_row f_whole_row fd_whole_row) (b_whole_row : Binds K fd_whole_row ["row"] []) (g_whole_row : mg "whole_row" = some (.ref f_whole_row)) (G_whole_row : FnOk P w K mg base CX0 2 f_whole_row fd_whole_row ["row"] (sp_whole_row K))
    {f_whole_determinant : Addr} {fd_whole_determinant : FuncData} (F_whole_determinant : FnP K "whole_determinant" s_whole_determinant f_whole_determinant fd_whole_determinant) (b_whole_determinant : Binds K fd_whole_determinant ["rows"] []) (g_whole_determinant : mg "whole_determinant" = some (.ref f_whole_determinant)) (G_whole_determinant : FnOk P w K mg base CX0 2 f_whole_determinant fd_whole_determinant ["rows"] (sp_whole_determinant K)) :
    FnOk P w K mg base CX0 3 f fd ["ground", "table"] (sp_determinant K) := by
  refine F.ok sc_determinant (fun vs H Q E h => ?_) (fun cdv A outer s H vs Q E hr h => ?_)
  · obtain ⟨g, v, t, n, k, kb, A, F', R, W, rfl, hg, hv, htn, ht, hn1, hn, hkb0, hkn, hkb, hw, hA, hsz, hk4, hk, q⟩ := h
    rfl
  · obtain ⟨g, v, t, n, k, kb, A, F', R, W, rfl, hg, hv, htn, ht, hn1, hn, hkb0, hkn, hkb, hw, hA, hsz, hk4, hk, q⟩ := h
    refine ⟨_, PSs.nox (pss_cons (ps_set (i := 2) sc_determinant.nd rfl (.inl rfl) (pe_lst pa_nil))
        (pss_cons (ps_set (i := 3) sc_determinant.nd rfl (.inl rfl) pe_int)
        (pss_cons (ps_for PassesOwn.never rfl (pi_tup (pv 1)) (pg_name (i := 4) sc_determinant.nd rfl (.inl rfl)) (pss_cons (ps_asg (pe_call G_whole_row hr (by rfl) g_whole_row F_whole_row.kp b_whole_row .nil pass0 (pa_cons (pv 4) pa_nil)) (pg_tup rfl (pgs_cons (pg_name (i := 5) sc_determinant.nd rfl (.inl rfl)) (pgs_cons (pg_name (i := 6) sc_determinant.nd rfl (.inl rfl)) pgs_nil))))
        (pss_cons (ps_expr (pe_bm PySem.F.plainAttrs_list PySem.F.slot_list_append PySem.F.type_list_append mt_append (pv 2) (pa_cons (pv 5) pa_nil)))
        (pss_one (ps_aug (i := 3) sc_determinant.nd rfl (.inl rfl) (pv 6) ip_mulW)))))
        (pss_one (ps_ret (pe_call G_lowest hr (by rfl) g_lowest F_lowest.kp b_lowest .nil pass0 (pa_cons (pv 0) (pa_cons (pe_call G_whole_determinant hr (by rfl) g_whole_determinant F_whole_determinant.kp b_whole_determinant .nil pass0 (pa_cons (pv 2) pa_nil)) (pa_cons (pv 3) pa_nil))))))))), ?_⟩
    have hpos : ∀ r ∈ t, ∀ a ∈ r, 0 < a.2 := fun r hr a ha => ((ht r hr).2 a ha).pos
    have hprl : ∀ i, (prB (t.take i)).natAbs < 2 ^ k := fun i => by
      refine Nat.lt_of_le_of_lt (Nat.le_trans (prB_le (A := A) fun r hr => (hw r (List.mem_of_mem_take hr)).1) ?_) hsz
      have h1 : (t.take i).length ≤ n := by rw [List.length_take]; omega
      exact Nat.le_trans (Nat.pow_le_pow_right hA h1) (Nat.pow_le_pow_left (Nat.le_mul_of_pos_left A hn1) n)
    have hwk : ∀ r ∈ t, (wrB r).natAbs < 2 ^ k := fun r hr => by
      have h1 : A ≤ (n * A) ^ n := by
        have h2 : n * A ≤ (n * A) ^ n := by
          have := Nat.pow_le_pow_right (n := n * A) (Nat.mul_le_mul hn1 hA) hn1
          rw [Nat.pow_one] at this
          exact this
        exact Nat.le_trans (Nat.le_mul_of_pos_left A hn1) h2
      have := (hw r hr).1
      omega
    obtain ⟨p, xs, rfl, hp, hlx, hxs⟩ := hv
    walk_at "go"
    refine w_new (by simp) fun L H1 hL s1 h1 => ?_
    walk_at "go"
    refine ⟨p, rfl, ⟨xs, SqT.of (s1 _ _ hp)⟩, ?_⟩
    refine for_tup (xs := xs) (fun i σ H' => (∃ y4 y5 y6, σ = [some (.int g), some (.ref p), some (.ref L), some (.int (prB (t.take i))), y4, y5, y6]) ∧ Same H H' ∧ ∃ ys, H' L = some (.lst ys) ∧ Acc (ILn L) H' ys (t.map wrT) i) ⟨⟨_, _, _, rfl⟩, s1, [], h1, Acc.nil⟩ (fun i σ H' _ hP => SqT.of (hP.2.1 _ _ hp)) (fun i x σ H' hxi hP => ?_) (fun σ H' hP => ?_)
    · obtain ⟨⟨y4, y5, y6, rfl⟩, sm, ys, hL', hacc⟩ := hP
      have hi : i < t.length := by
        have := (List.getElem?_eq_some_iff.mp hxi).1
        omega
      have gt1 : t[i]? = some t[i] := List.getElem?_eq_getElem hi
      have hr := ht _ (List.getElem_mem hi)
      walk_at "go"
      refine whole_row_old ⟨x, t[i], g, kb, rfl, .inl (RowV.kt (hxs i x _ hxi gt1) (Kt.of sm)), fun a ha => (hr.2 a ha).okn hg, hkb0, by rw [hr.1]; exact hkn, hkb, by omega, fun p2 L2 H2 s2 hL2 h2 h2L => ?_⟩
      walk_at "go"
      have hLL := s2 _ _ hL'
      refine ⟨.inl ⟨rfl, _, SqL.of hLL⟩, ?_⟩
      walk_at "go"
      refine w_append hLL (by rw [hacc.1]; omega) ?_
      have nL : L2 ≠ L := fun e => by rw [e, hL'] at hL2; cases hL2
      walk_at "go"
      unfold Ends.nx
      refine w_aug (i := 3) (x := .int (prB (t.take i))) (by rfl) ?_
      walk_at "go"
      refine ⟨_, _, rfl, rfl, wide_mul (hprl i) (hwk _ (List.getElem_mem hi)) (by omega) (by omega) (by omega), ?_⟩
      refine ⟨⟨_, _, _, by rw [prB_take gt1]; rfl⟩, Same.updD (sm.trans s2) hL, _, upd_same, ?_⟩
      exact (hacc.mono fun x a h => (h.sm s2).upd).snoc (a := wrT t[i]) (by rw [List.getElem?_map, gt1]; rfl) (ILn.upd ⟨L2, rfl, nL, h2L⟩)
    · obtain ⟨⟨y4, y5, y6, rfl⟩, sm, ys, hL', hacc⟩ := hP
      rw [List.take_of_length_le (show t.length ≤ xs.length by omega)]
      have hacc' : Acc IL H' ys (t.map wrT) (t.map wrT).length := by
        rw [List.length_map, ← hlx]
        exact acc_imp hacc fun x a h => ILn.il h
      obtain ⟨e1, n1⟩ := dt_wr (V := W) hg htn (fun r hr => (ht r hr).2)
      have hrows : ∀ r ∈ t.map wrT, r.length = n ∧ ∀ x, (gt r x).natAbs ≤ A := fun r hr => by
        obtain ⟨s, hs, rfl⟩ := List.mem_map.mp hr
        refine ⟨by rw [wrT_len, (ht s hs).1], fun x => ?_⟩
        by_cases e : gt (wrT s) x = 0
        · rw [e]
          exact Nat.zero_le _
        · exact (hw s hs).2 _ (gt_mem e)
      walk_at "go"
      refine ⟨.ref L, t.map wrT, n, A, k, rfl, ⟨L, ys, rfl, hL', hacc'⟩, by rw [List.length_map]; exact htn, hn1, hn, hrows, hA, hsz, by omega, hk, fun H2 s2 => ?_⟩
      have hprB : 0 < prB t := prB_ne hpos
      have hpk : (prB t).natAbs < 2 ^ k := by
        have := hprl t.length
        rw [List.take_length] at this
        exact this
      have hfm : g ≠ 0 → (prB t).fmod g ≠ 0 := fun z e => n1 (by
        have := W.imod z (prB t)
        rw [e, W.i0] at this
        exact this.symm)
      have hdk : (dt (t.map wrT) (List.range n)).natAbs < 2 ^ k := by
        refine Nat.lt_of_le_of_lt (Nat.le_trans (dt_abs (A := A) _ _ (by rw [List.length_map, List.length_range, htn]) fun i x => ?_) (by rw [List.length_range]; exact Nat.le_refl _)) hsz
        show (gt ((t.map wrT).getD i []) x).natAbs ≤ A
        cases e : (t.map wrT)[i]? with
        | none =>
          have q1 : (t.map wrT).getD i [] = [] := by rw [List.getD_eq_getElem?_getD, e]; rfl
          have : gt [] x = 0 := by unfold gt; simp
          rw [q1, this]
          exact Nat.zero_le _
        | some r =>
          have q1 : (t.map wrT).getD i [] = r := by rw [List.getD_eq_getElem?_getD, e]; rfl
          rw [q1]
          exact (hrows r (List.mem_of_getElem? e)).2 x
      walk_at "go"
      refine ⟨g, _, prB t, rfl, lowP hg (by omega) hfm hdk hpk (by omega), fun p3 H3 hp3 s3 h3 => ?_⟩
      refine q _ _ _ (sm.trans (s2.trans s3)) ⟨p3, rfl, h3⟩ (tn_low hg (by omega) hfm hk4 hdk hpk) ?_
      refine W.cancel (z := W.i (prB t)) ?_ n1
      rw [W.low hg (by omega) hfm, e1]
      grind
theorem ok_show_table {f : Addr} {fd : FuncData} (F : FnP K "show_table" s_show_table f fd)
    {f_show_row : Addr} {fd_show_row : FuncData} (F_show_row : FnP K "show_row" s_show_row f_show_row fd_show_row) (b_show_row : Binds K fd_show_row ["row"] []) (g_show_row : mg "show_row" = some (.ref f_show_row)) (G_show_row : FnOk P w K mg base CX0 2 f_show_row fd_show_row ["row"] (sp_show_row K)) :
    FnOk P w K mg base CX0 3 f fd ["table"] (sp_show_table K) := by
  refine F.ok sc_show_table (fun vs H Q E h => ?_) (fun cdv A outer s H vs Q E hr h => ?_)
  · obtain ⟨v, t, rfl, hv, hs, hl, q⟩ := h
    rfl
  · obtain ⟨v, t, rfl, hv, hs, hl, q⟩ := h
    refine ⟨_, PSs.nox (pss_one (ps_ret (pe_join pe_str (pe_lc (own := [("row", 1)]) (g := gName 1) (tt := tYes) (by rfl) sc_show_table.nd (pi_tup (pv 0)) (blkOk_by (own := [("row", 1)]) (N := ["table", "row"]) (sc := defScope s_show_table) (by decide +kernel)) (fun _ _ _ _ _ => (pg_name (i := 1) sc_show_table.nd rfl (.inl rfl))) (fun _ _ _ _ _ => pts_nil) (fun _ _ _ _ _ => (pe_call G_show_row hr (by rfl) g_show_row F_show_row.kp b_show_row .nil pass0 (pa_cons (pv 1) pa_nil))))))), ?_⟩
    obtain ⟨p, xs, rfl, hp, hlx, hx⟩ := hv
    walk_at "go"
    refine ⟨⟨_, rfl⟩, ?_⟩
    walk_at "go"
    refine ⟨p, rfl, ⟨xs, SqT.of hp⟩, fun D hD => ?_⟩
    refine lc_tup (xs := xs) (fun i H' => Same H H' ∧ H' D = some (.lst (((t.take i).map rowT).map V.str))) ⟨Same.updD (Same.refl H) hD, upd_same⟩ (fun i H' _ hP => SqT.of (hP.1 _ _ hp)) (fun i x H' hxi hP => ?_) (fun H' hP => ?_)
    · obtain ⟨sm, hD'⟩ := hP
      have hi : i < t.length := by
        have := (List.getElem?_eq_some_iff.mp hxi).1
        omega
      have hri : t[i]? = some t[i] := List.getElem?_eq_getElem hi
      walk_at "go"
      refine ⟨rfl, ?_⟩
      walk_at "go"
      refine ⟨x, t[i], rfl, RowV.kt (hx i x _ hxi hri) (Kt.of sm), (hs _ (List.getElem_mem hi)).1, (hs _ (List.getElem_mem hi)).2, fun H2 s2 => ?_⟩
      refine ⟨_, s2 _ _ hD', ?_, Same.updD (sm.trans s2) hD, ?_⟩
      · rw [List.length_map, List.length_map, List.length_take]
        exact small1000 (by omega)
      · rw [upd_same, List.take_add_one, hri, List.map_append, List.map_append]
        rfl
    · obtain ⟨sm, hD'⟩ := hP
      have e : t.take xs.length = t := List.take_of_length_le (by omega)
      rw [e] at hD'
      refine ⟨_, D, t.map rowT, rfl, rfl, .inl (SqL.of hD'), ?_, q _ sm⟩
      have h1 := sum_le (n := 40000) (ys := t.map rowT) fun y hy => by
        obtain ⟨a, ha, rfl⟩ := List.mem_map.mp hy
        exact rowT_ok (hs a ha).1 (hs a ha).2
      have h2 : (" / " : Str).length = 3 := by decide
      rw [List.length_map] at h1 ⊢
      rw [h2]
      omega
theorem ok_row_parts {f : Addr} {fd : FuncData} (F : FnP K "row_parts" s_row_parts f fd)
    {f_number_part : Addr} {fd_number_part : FuncData} (F_number_part : FnP K "number_part" s_number_part f_number_part fd_number_part) (b_number_part : Binds K fd_number_part ["word"] []) (g_number_part : mg "number_part" = some (.ref f_number_part)) (G_number_part : FnOk P w K mg base CX0 2 f_number_part fd_number_part ["word"] (sp_number_part K)) (m_tuple : mg "tuple" = none) :
    FnOk P w K mg base CX0 3 f fd ["text"] (sp_row_parts K) := by
  refine F.ok sc_row_parts (fun vs H Q E h => ?_) (fun cdv A outer s H vs Q E hr h => ?_)
  · obtain ⟨s, rfl, hs, hsm, q⟩ := h
    rfl
  · obtain ⟨s, rfl, hs, hsm, q⟩ := h
    refine ⟨_, PSs.nox (pss_one (ps_ret (pe_callTy call_tuple_of (by rfl) m_tuple (by decide +kernel) (pa_cons (pe_lc (own := [("word", 1)]) (g := gName 1) (tt := tYes) (by rfl) sc_row_parts.nd (pi_list (pe_split (pv 0) pe_str)) (blkOk_by (own := [("word", 1)]) (N := ["text", "word"]) (sc := defScope s_row_parts) (by decide +kernel)) (fun _ _ _ _ _ => (pg_name (i := 1) sc_row_parts.nd rfl (.inl rfl))) (fun _ _ _ _ _ => pts_nil) (fun _ _ _ _ _ => (pe_call G_number_part hr (by rfl) g_number_part F_number_part.kp b_number_part .nil pass0 (pa_cons (pv 1) pa_nil)))) pa_nil)))), ?_⟩
    have zl : (1000000 : Nat) ≤ sizeLine := by decide
    have ⟨l1, l2⟩ := split_len (x := s) (y := Str.ofString " ") (by decide) (by decide +kernel)
    have el : (rowN s).length = (Txt.split s (Str.ofString " ")).length := by unfold rowN; rw [List.length_map]
    have eg : ∀ i, (rowN s)[i]? = ((Txt.split s (Str.ofString " "))[i]?).map partN := fun i => by unfold rowN; rw [List.getElem?_map]
    walk_at "go"
    refine ⟨⟨_, rfl⟩, ?_⟩
    walk_at "go"
    refine ⟨_, _, rfl, rfl, by decide, by omega, fun p hp => ?_⟩
    have s1 := Same.upd (Same.refl H) (o := .lst ((Txt.split s (Str.ofString " ")).map V.str)) hp
    have hp1 : (upd H p (.lst ((Txt.split s (Str.ofString " ")).map V.str))) p = some (.lst ((Txt.split s (Str.ofString " ")).map V.str)) := upd_same
    revert s1 hp1
    generalize upd H p (.lst ((Txt.split s (Str.ofString " ")).map V.str)) = H1
    intro s1 hp1
    refine ⟨p, rfl, ⟨_, SqL.of hp1⟩, fun D hD => ?_⟩
    refine lc_list (xs := (Txt.split s (Str.ofString " ")).map V.str) (fun i H' => Same H1 H' ∧ ∃ zs, H' D = some (.lst zs) ∧ Acc OpV H' zs (rowN s) i) ⟨Same.updD (Same.refl H1) hD, [], upd_same, Acc.nil⟩ (fun i H' _ hP => SqL.of (hP.1 _ _ hp1)) (fun i x H' hxi hP => ?_) (fun H' hP => ?_)
    · obtain ⟨sm, zs, hD', hac⟩ := hP
      rw [List.getElem?_map] at hxi
      obtain ⟨y, hy, rfl⟩ := Option.map_eq_some_iff.mp hxi
      have hi := (List.getElem?_eq_some_iff.mp hy).1
      have hm := List.mem_of_getElem? hy
      walk_at "go"
      refine ⟨rfl, ?_⟩
      walk_at "go"
      refine ⟨y, rfl, by have := l2 y hm; omega, hsm y hm, fun v H2 s2 hv => ?_⟩
      refine ⟨_, s2 _ _ hD', ?_, ?_⟩
      · have := hac.1
        rw [this]
        exact Nat.lt_of_lt_of_le (Nat.lt_of_lt_of_le (show i < 1000000 by omega) zl) (by decide)
      · refine ⟨Same.updD (sm.trans s2) hD, _, upd_same, ?_⟩
        refine Acc.snoc ((hac.mono fun x a h => h.kt (Kt.of s2)).mono fun x a h => h.kt (Kt.updL (s2 _ _ hD'))) (by rw [eg, hy]; rfl) (hv.kt (Kt.updL (s2 _ _ hD')))
    · obtain ⟨sm, zs, hD', hac⟩ := hP
      rw [List.length_map, ← el] at hac
      walk_at "go"
      refine ⟨D, zs, rfl, .inl ⟨SqL.of hD', fun l hl => ?_⟩⟩
      refine q _ _ (Same.trans (s1.trans sm) (Same.upd (Same.refl _) hl)) (Acc.sq (hac.mono fun x a h => h.kt (Kt.of (Same.upd (Same.refl _) hl))) rfl upd_same)
theorem ok__law_plus {f : Addr} {fd : FuncData} (F : FnP K "_law_plus" s__law_plus f fd)
    {f__law_low : Addr} {fd__law_low : FuncData} (F__law_low : FnP K "_law_low" s__law_low f__law_low fd__law_low) (b__law_low : Binds K fd__law_low ["_law_g", "_law_up", "_law_down"] []) (g__law_low : mg "_law_low" = some (.ref f__law_low)) (G__law_low : FnOk P w K mg base CX0 2 f__law_low fd__law_low ["_law_g", "_law_up", "_law_down"] (sp__law_low K)) :
    FnOk P w K mg base CX0 3 f fd ["_law_g", "_law_x", "_law_y"] (sp__law_plus K) := by
  refine F.ok sc__law_plus (fun vs H Q E h => ?_) (fun cdv A outer s H vs Q E hr h => ?_)
  · obtain ⟨g, x, y, a, c, rfl, hg0, hg, hx, hy, ha, hc, q⟩ := h
    rfl
  · obtain ⟨g, x, y, a, c, rfl, hg0, hg, hx, hy, ha, hc, q⟩ := h
    refine ⟨_, PSs.nox (pss_one (ps_ret (pe_call G__law_low hr (by rfl) g__law_low F__law_low.kp b__law_low .nil pass0 (pa_cons (pv 0) (pa_cons (pe_op op_add (pe_op op_mulW (pe_ix ix_tup (pv 1) pe_int (fun _ _ => rfl)) (pe_ix ix_tup (pv 2) pe_int (fun _ _ => rfl))) (pe_op op_mulW (pe_ix ix_tup (pv 2) pe_int (fun _ _ => rfl)) (pe_ix ix_tup (pv 1) pe_int (fun _ _ => rfl)))) (pa_cons (pe_op op_mulW (pe_ix ix_tup (pv 1) pe_int (fun _ _ => rfl)) (pe_ix ix_tup (pv 2) pe_int (fun _ _ => rfl))) pa_nil)))))), ?_⟩
    obtain ⟨px, rfl, hpx⟩ := hx
    obtain ⟨py, rfl, hpy⟩ := hy
    have hW : ∀ {u v : Int}, u.natAbs < 2 ^ 3900 → v.natAbs < 2 ^ 3900 → CMulW u v := fun h1 h2 => wide_mul h1 h2 (by decide) (by decide) (by decide)
    have hD : (a.2 * c.2).natAbs < 2 ^ 8000 := Nat.lt_of_lt_of_le (wide_lt ha.2.1 hc.2.1) (Nat.pow_le_pow_right (by decide) (by decide))
    walk_at "go"
    refine w_I (hW ha.1 hc.2.1) ?_
    walk_at "go"
    refine w_I (hW hc.1 ha.2.1) ?_
    walk_at "go"
    refine w_I (hW ha.2.1 hc.2.1) ?_
    walk_at "go"
    exact ⟨g, _, _, rfl, hg0, hg, Int.mul_ne_zero ha.2.2 hc.2.2, hD, fun p H1 hp s1 h1 => q p H1 hp s1 h1⟩
theorem ok__law_times {f : Addr} {fd : FuncData} (F : FnP K "_law_times" s__law_times f fd)
    {f__law_low : Addr} {fd__law_low : FuncData} (F__law_low : FnP K "_law_low" s__law_low f__law_low fd__law_low) (b__law_low : Binds K fd__law_low ["_law_g", "_law_up", "_law_down"] []) (g__law_low : mg "_law_low" = some (.ref f__law_low)) (G__law_low : FnOk P w K mg base CX0 2 f__law_low fd__law_low ["_law_g", "_law_up", "_law_down"] (sp__law_low K)) :
    FnOk P w K mg base CX0 3 f fd ["_law_g", "_law_x", "_law_y"] (sp__law_times K) := by
  refine F.ok sc__law_times (fun vs H Q E h => ?_) (fun cdv A outer s H vs Q E hr h => ?_)
  · obtain ⟨g, x, y, a, c, rfl, hg0, hg, hx, hy, ha, hc, q⟩ := h
    rfl
  · obtain ⟨g, x, y, a, c, rfl, hg0, hg, hx, hy, ha, hc, q⟩ := h
    refine ⟨_, PSs.nox (pss_one (ps_ret (pe_call G__law_low hr (by rfl) g__law_low F__law_low.kp b__law_low .nil pass0 (pa_cons (pv 0) (pa_cons (pe_op op_mulW (pe_ix ix_tup (pv 1) pe_int (fun _ _ => rfl)) (pe_ix ix_tup (pv 2) pe_int (fun _ _ => rfl))) (pa_cons (pe_op op_mulW (pe_ix ix_tup (pv 1) pe_int (fun _ _ => rfl)) (pe_ix ix_tup (pv 2) pe_int (fun _ _ => rfl))) pa_nil)))))), ?_⟩
    obtain ⟨px, rfl, hpx⟩ := hx
    obtain ⟨py, rfl, hpy⟩ := hy
    have hW : ∀ {u v : Int}, u.natAbs < 2 ^ 3900 → v.natAbs < 2 ^ 3900 → CMulW u v := fun h1 h2 => wide_mul h1 h2 (by decide) (by decide) (by decide)
    have hD : (a.2 * c.2).natAbs < 2 ^ 8000 := Nat.lt_of_lt_of_le (wide_lt ha.2.1 hc.2.1) (Nat.pow_le_pow_right (by decide) (by decide))
    walk_at "go"
    refine w_I (hW ha.1 hc.1) ?_
    walk_at "go"
    refine w_I (hW ha.2.1 hc.2.1) ?_
    walk_at "go"
    exact ⟨g, _, _, rfl, hg0, hg, Int.mul_ne_zero ha.2.2 hc.2.2, hD, fun p H1 hp s1 h1 => q p H1 hp s1 h1⟩
theorem ok__law_minus {f : Addr} {fd : FuncData} (F : FnP K "_law_minus" s__law_minus f fd)
    {f__law_low : Addr} {fd__law_low : FuncData} (F__law_low : FnP K "_law_low" s__law_low f__law_low fd__law_low) (b__law_low : Binds K fd__law_low ["_law_g", "_law_up", "_law_down"] []) (g__law_low : mg "_law_low" = some (.ref f__law_low)) (G__law_low : FnOk P w K mg base CX0 2 f__law_low fd__law_low ["_law_g", "_law_up", "_law_down"] (sp__law_low K)) :
    FnOk P w K mg base CX0 3 f fd ["_law_g", "_law_x"] (sp__law_minus K) := by
  refine F.ok sc__law_minus (fun vs H Q E h => ?_) (fun cdv A outer s H vs Q E hr h => ?_)
  · obtain ⟨g, x, a, rfl, hg0, hg, hx, ha, ha2, q⟩ := h
    rfl
  · obtain ⟨g, x, a, rfl, hg0, hg, hx, ha, ha2, q⟩ := h
    refine ⟨_, PSs.nox (pss_one (ps_ret (pe_call G__law_low hr (by rfl) g__law_low F__law_low.kp b__law_low .nil pass0 (pa_cons (pv 0) (pa_cons (pe_op op_sub pe_int (pe_ix ix_tup (pv 1) pe_int (fun _ _ => rfl))) (pa_cons (pe_ix ix_tup (pv 1) pe_int (fun _ _ => rfl)) pa_nil)))))), ?_⟩
    obtain ⟨px, rfl, hpx⟩ := hx
    walk_at "go"
    exact ⟨g, _, _, rfl, hg0, hg, ha2, ha, fun p H1 hp s1 h1 => q p H1 hp s1 h1⟩
theorem ok__law_number {f : Addr} {fd : FuncData} (F : FnP K "_law_number" s__law_number f fd)
    {f__law_low : Addr} {fd__law_low : FuncData} (F__law_low : FnP K "_law_low" s__law_low f__law_low fd__law_low) (b__law_low : Binds K fd__law_low ["_law_g", "_law_up", "_law_down"] []) (g__law_low : mg "_law_low" = some (.ref f__law_low)) (G__law_low : FnOk P w K mg base CX0 2 f__law_low fd__law_low ["_law_g", "_law_up", "_law_down"] (sp__law_low K))
    {f__law_take : Addr} {fd__law_take : FuncData} (F__law_take : FnP K "_law_take" s__law_take f__law_take fd__law_take) (b__law_take : Binds K fd__law_take ["_law_bag_here", "_law_many"] []) (g__law_take : mg "_law_take" = some (.ref f__law_take)) (G__law_take : FnOk P w K mg base CX0 1 f__law_take fd__law_take ["_law_bag_here", "_law_many"] (sp__law_take K)) :
    FnOk P w K mg base CX0 3 f fd ["_law_bag_here", "_law_g"] (sp__law_number K) := by
  refine F.ok sc__law_number (fun vs H Q E h => ?_) (fun cdv A outer s H vs Q E hr h => ?_)
  · obtain ⟨b, g, rfl, hgr, hb, q⟩ := h
    rfl
  · obtain ⟨b, g, rfl, hgr, hb, q⟩ := h
    refine ⟨_, PSs.nox (pss_cons (ps_if (pt_cmpR op_gt (pv 1) pe_int (nomark _)) (pss_one (ps_ret (pe_tup (pa_cons (pe_call G__law_take (hr.mono (by decide)) (by rfl) g__law_take F__law_take.kp b__law_take .nil pass0 (pa_cons (pv 0) (pa_cons (pv 1) pa_nil))) (pa_cons pe_int pa_nil))))) pss_nil)
        (pss_cons (ps_set (i := 2) sc__law_number.nd rfl (.inl rfl) (pe_ix ix_list (pe_lst (pa_cons pe_int (pa_cons pe_int (pa_cons pe_int (pa_cons pe_int (pa_cons pe_int (pa_cons pe_int pa_nil))))))) (pe_call G__law_take (hr.mono (by decide)) (by rfl) g__law_take F__law_take.kp b__law_take .nil pass0 (pa_cons (pv 0) (pa_cons pe_int pa_nil))) (fun _ _ => rfl)))
        (pss_cons (ps_set (i := 3) sc__law_number.nd rfl (.inl rfl) (pe_ix ix_list (pe_lst (pa_cons pe_int (pa_cons pe_int (pa_cons pe_int (pa_cons (pe_op op_add pe_int (pe_call G__law_take (hr.mono (by decide)) (by rfl) g__law_take F__law_take.kp b__law_take .nil pass0 (pa_cons (pv 0) (pa_cons pe_int pa_nil)))) pa_nil))))) (pe_call G__law_take (hr.mono (by decide)) (by rfl) g__law_take F__law_take.kp b__law_take .nil pass0 (pa_cons (pv 0) (pa_cons pe_int pa_nil))) (fun _ _ => rfl)))
        (pss_one (ps_ret (pe_call G__law_low hr (by rfl) g__law_low F__law_low.kp b__law_low .nil pass0 (pa_cons pe_int (pa_cons (pe_op op_sub (pe_call G__law_take (hr.mono (by decide)) (by rfl) g__law_take F__law_take.kp b__law_take .nil pass0 (pa_cons (pv 0) (pa_cons (pv 2) pa_nil))) (pe_op op_fdivZ (pv 2) pe_int)) (pa_cons (pv 3) pa_nil))))))))), ?_⟩
    obtain ⟨hg0, hg⟩ := hgr.bd
    have hg3 := hgr.three
    walk_at "go"
    refine w_ite (fun hc => ?_) (fun hc => ?_)
    · walk_at "go"
      refine ⟨b, g, rfl, hc, by omega, hb, fun H1 d hd0 hd1 m1 hb1 => ?_⟩
      walk_at "go"
      refine w_new (by simp) fun p H2 hp s2 h2 => ?_
      refine q _ _ (d, 1) ⟨p, rfl, h2⟩ ⟨show (0 : Int) < 1 by decide, show (1 : Int) ∣ 2520 by decide, ?_, ?_⟩ ⟨.inr ⟨hc, hd0, hd1, rfl⟩, ?_, show (1 : Int).natAbs < 2 ^ 7 by decide⟩ (m1.trans (Mv.same s2)) (hb1.same s2)
      · show d.natAbs ≤ 64 * 2 ^ 0 * 1
        omega
      · exact .inr ⟨by omega, by omega, rfl⟩
      · show d.natAbs < 2 ^ 7
        omega
    · walk_at "go"
      refine w_new (by simp) fun p1 H1 hp1 s1 h1 => ?_
      walk_at "go"
      refine ⟨b, 6, rfl, by decide, by decide, hb.same s1, fun H2 d2 h20 h21 m2 hb2 => ?_⟩
      obtain ⟨wd, ew, hw0, hw1⟩ := nu_six h20 h21
      refine w_ixL (m2 _ _ (bag_ne hb hp1) h1) ew ?_
      walk_at "go"
      refine ⟨b, 8, rfl, by decide, by decide, hb2, fun H3 d3 h30 h31 m3 hb3 => ?_⟩
      walk_at "go"
      refine w_new (by simp) fun p4 H4 hp4 s4 h4 => ?_
      walk_at "go"
      refine ⟨b, 4, rfl, by decide, by decide, hb3.same s4, fun H5 d5 h50 h51 m5 hb5 => ?_⟩
      obtain ⟨dn, ed, hdn0, hdn1⟩ := nu_four h50 h51 h30 h31
      refine w_ixL (m5 _ _ (bag_ne hb3 hp4) h4) ed ?_
      walk_at "go"
      refine ⟨b, wd, rfl, by omega, by omega, hb5, fun H6 d6 h60 h61 m6 hb6 => ?_⟩
      walk_at "go"
      refine w_I (divZ_small (by decide) (by decide)) ?_
      walk_at "go"
      refine ⟨0, _, dn, rfl, by decide, by decide, by omega, Nat.lt_of_lt_of_le (show dn.natAbs < 2 ^ 7 by omega) (Nat.pow_le_pow_right (by decide) (by decide)), fun p H7 hp s7 h7 => ?_⟩
      have hu : (d6 - wd.fdiv 2).natAbs ≤ 64 := by
        rw [fdiv_pos _ (by decide)]
        omega
      have e0 : g = 0 := by omega
      subst e0
      exact q _ _ _ ⟨p, rfl, h7⟩ (ng_low hu hdn0 hdn1) (tn_low (.inl rfl) (by omega) (fun z => absurd rfl z) (by decide) (by omega) (by omega)) ((Mv.same s1).trans (m2.trans (m3.trans ((Mv.same s4).trans (m5.trans (m6.trans (Mv.same s7))))))) (hb6.same s7)
theorem ok__law_table_text {f : Addr} {fd : FuncData} (F : FnP K "_law_table_text" s__law_table_text f fd)
    {f__law_row_text : Addr} {fd__law_row_text : FuncData} (F__law_row_text : FnP K "_law_row_text" s__law_row_text f__law_row_text fd__law_row_text) (b__law_row_text : Binds K fd__law_row_text ["_law_row"] []) (g__law_row_text : mg "_law_row_text" = some (.ref f__law_row_text)) (G__law_row_text : FnOk P w K mg base CX0 2 f__law_row_text fd__law_row_text ["_law_row"] (sp__law_row_text K)) :
    FnOk P w K mg base CX0 3 f fd ["_law_table"] (sp__law_table_text K) := by
  refine F.ok sc__law_table_text (fun vs H Q E h => ?_) (fun cdv A outer s H vs Q E hr h => ?_)
  · obtain ⟨v, t, rfl, hv, hs, hl, q⟩ := h
    rfl
  · obtain ⟨v, t, rfl, hv, hs, hl, q⟩ := h
    refine ⟨_, PSs.nox (pss_one (ps_ret (pe_join pe_str (pe_lc (own := [("_law_row", 1)]) (g := gName 1) (tt := tYes) (by rfl) sc__law_table_text.nd (pi_tup (pv 0)) (blkOk_by (own := [("_law_row", 1)]) (N := ["_law_table", "_law_row"]) (sc := defScope s__law_table_text) (by decide +kernel)) (fun _ _ _ _ _ => (pg_name (i := 1) sc__law_table_text.nd rfl (.inl rfl))) (fun _ _ _ _ _ => pts_nil) (fun _ _ _ _ _ => (pe_call G__law_row_text hr (by rfl) g__law_row_text F__law_row_text.kp b__law_row_text .nil pass0 (pa_cons (pv 1) pa_nil))))))), ?_⟩
    obtain ⟨p, xs, rfl, hp, hlx, hx⟩ := hv
    walk_at "go"
    refine ⟨⟨_, rfl⟩, ?_⟩
    walk_at "go"
    refine ⟨p, rfl, ⟨xs, SqT.of hp⟩, fun D hD => ?_⟩
    refine lc_tup (xs := xs) (fun i H' => Same H H' ∧ H' D = some (.lst (((t.take i).map rowT).map V.str))) ⟨Same.updD (Same.refl H) hD, upd_same⟩ (fun i H' _ hP => SqT.of (hP.1 _ _ hp)) (fun i x H' hxi hP => ?_) (fun H' hP => ?_)
    · obtain ⟨sm, hD'⟩ := hP
      have hi : i < t.length := by
        have := (List.getElem?_eq_some_iff.mp hxi).1
        omega
      have hri : t[i]? = some t[i] := List.getElem?_eq_getElem hi
      walk_at "go"
      refine ⟨rfl, ?_⟩
      walk_at "go"
      refine ⟨x, t[i], rfl, RowV.kt (hx i x _ hxi hri) (Kt.of sm), (hs _ (List.getElem_mem hi)).1, (hs _ (List.getElem_mem hi)).2, fun H2 s2 => ?_⟩
      refine ⟨_, s2 _ _ hD', ?_, Same.updD (sm.trans s2) hD, ?_⟩
      · rw [List.length_map, List.length_map, List.length_take]
        exact small1000 (by omega)
      · rw [upd_same, List.take_add_one, hri, List.map_append, List.map_append]
        rfl
    · obtain ⟨sm, hD'⟩ := hP
      have e : t.take xs.length = t := List.take_of_length_le (by omega)
      rw [e] at hD'
      refine ⟨_, D, t.map rowT, rfl, rfl, .inl (SqL.of hD'), ?_, q _ sm⟩
      have h1 := sum_le (n := 40000) (ys := t.map rowT) fun y hy => by
        obtain ⟨a, ha, rfl⟩ := List.mem_map.mp hy
        exact rowT_ok (hs a ha).1 (hs a ha).2
      have h2 : (" / " : Str).length = 3 := by decide
      rw [List.length_map] at h1 ⊢
      rw [h2]
      omega
theorem ok_is_table {f : Addr} {fd : FuncData} (F : FnP K "is_table" s_is_table f fd)
    {f_is_row : Addr} {fd_is_row : FuncData} (F_is_row : FnP K "is_row" s_is_row f_is_row fd_is_row) (b_is_row : Binds K fd_is_row ["ground", "thing", "many"] []) (g_is_row : mg "is_row" = some (.ref f_is_row)) (G_is_row : FnOk P w K mg base CX0 3 f_is_row fd_is_row ["ground", "thing", "many"] (sp_is_row K)) (m_all : mg "all" = none) (m_isinstance : mg "isinstance" = none) (m_tuple : mg "tuple" = none) (m_len : mg "len" = none) :
    FnOk P w K mg base CX0 4 f fd ["ground", "thing", "high", "wide"] (sp_is_table K) := by
  refine F.ok sc_is_table (fun vs H Q E h => ?_) (fun cdv A outer s H vs Q E hr h => ?_)
  · obtain ⟨g, v, m, w, kb, nb, rfl, hv, q⟩ := h
    rfl
  · obtain ⟨g, v, m, w, kb, nb, rfl, hv, q⟩ := h
    refine ⟨_, PSs.nox (pss_cons (ps_if (PW.pt (pw_or (pt_not (pt_val (pe_callB call_isi (by rfl) m_isinstance (by decide +kernel) (pa_cons (pv 1) (pa_cons (pe_bltn (v := .ty "tuple") (by rfl) m_tuple (by decide +kernel) rfl) pa_nil))))) (pw_or1 (pt_cmpR op_ne (pe_callB call_len_seq (by rfl) m_len (by decide +kernel) (pa_cons (pv 1) pa_nil)) (pv 2) (nomark _))))) (pss_one (ps_ret pe_bl)) pss_nil)
        (pss_one (ps_ret (pe_callB (cr_all rfl) (by rfl) m_all (by decide +kernel) (pa_cons (pe_lc (own := [("row", 4)]) (g := gName 4) (tt := tYes) (by rfl) sc_is_table.nd (pi_tup (pv 1)) (blkOk_by (own := [("row", 4)]) (N := ["ground", "thing", "high", "wide", "row"]) (sc := defScope s_is_table) (by decide +kernel)) (fun _ _ _ _ _ => (pg_name (i := 4) sc_is_table.nd rfl (.inl rfl))) (fun _ _ _ _ _ => pts_nil) (fun _ _ _ _ _ => (pe_call G_is_row hr (by rfl) g_is_row F_is_row.kp b_is_row .nil pass0 (pa_cons (pv 0) (pa_cons (pv 4) (pa_cons (pv 3) pa_nil)))))) pa_nil))))), ?_⟩
    walk_at "go"
    refine tb_tup hv (fun p xs e hp hz hx => ?_) (fun hn => ?_)
    · subst e
      rw [tabOf_tup hp] at q
      walk_at "go"
      refine iteF ?_
      walk_at "go"
      refine ⟨p, xs, rfl, .inr (SqT.of hp), ?_⟩
      walk_at "go"
      refine w_iteN (fun hl => ?_) (fun hl => ?_)
      · walk_at "go"
        rw [decide_eq_false hl] at q
        exact q _ (Same.refl _)
      · rw [decide_eq_true hl] at q
        walk_at "go"
        refine ⟨p, rfl, ⟨xs, SqT.of hp⟩, fun D hD => ?_⟩
        refine lc_tup (xs := xs) (fun i H' => Same H H' ∧ H' D = some (.lst (((xs.map (rowOf H g w)).take i).map V.bl))) ⟨Same.updD (Same.refl H) hD, upd_same⟩ (fun i H' _ hP => SqT.of (hP.1 _ _ hp)) (fun i x H' hxi hP => ?_) (fun H' hP => ?_)
        · obtain ⟨sm, hD'⟩ := hP
          have hmem := List.mem_of_getElem? hxi
          walk_at "go"
          refine ⟨rfl, ?_⟩
          walk_at "go"
          refine ⟨g, x, w, kb, nb, rfl, (hx x hmem).kd (Kd.of sm), fun H2 s2 => ?_⟩
          rw [rowOf_tb (hx x hmem) (Kd.of sm)]
          refine ⟨_, s2 _ _ hD', ?_, Same.updD (sm.trans s2) hD, ?_⟩
          · rw [List.length_map]
            exact small1000 (Nat.le_trans (List.length_take_le' _ _) (by rw [List.length_map]; omega))
          · rw [upd_same, List.take_add_one, List.getElem?_map, hxi, List.map_append]
            rfl
        · obtain ⟨sm, hD'⟩ := hP
          walk_at "go"
          rw [List.take_of_length_le (by rw [List.length_map]; exact Nat.le_refl _)] at hD'
          refine ⟨D, _, rfl, SqL.of hD', ?_⟩
          rw [all_map]
          exact q _ sm
    · rw [tabOf_no hn] at q
      walk_at "go"
      refine iteT ?_
      walk_at "go"
      exact q _ (Same.refl _)
theorem ok_Form___str__ {f : Addr} {fd : FuncData} (F : FunD K "__str__" "Form.__str__" (defArgs s_Form___str__) (defBody s_Form___str__) (defScope s_Form___str__) [] [] f fd)
    {f_show_table : Addr} {fd_show_table : FuncData} (F_show_table : FnP K "show_table" s_show_table f_show_table fd_show_table) (b_show_table : Binds K fd_show_table ["table"] []) (g_show_table : mg "show_table" = some (.ref f_show_table)) (G_show_table : FnOk P w K mg base CX0 3 f_show_table fd_show_table ["table"] (sp_show_table K)) (CF : FormC K) :
    FnOk P w K mg base CX0 4 f fd ["self"] (sp_Form___str__ K) := by
  refine F.ok sc_Form___str__ (fun vs H Q E h => ?_) (fun cdv A outer s H vs Q E hr h => ?_)
  · obtain ⟨g, f, tv, t, rfl, hf, ht, hs, hl, hgl, q⟩ := h
    rfl
  · obtain ⟨g, f, tv, t, rfl, hf, ht, hs, hl, hgl, q⟩ := h
    refine ⟨_, PSs.nox (pss_cons (ps_if (pt_cmpR op_eq (pe_fld (pv 0) rfl) pe_int (nomark _)) (pss_one (ps_ret (pe_joined1 (pe_fmt (pe_call G_show_table hr (by rfl) g_show_table F_show_table.kp b_show_table .nil pass0 (pa_cons (pe_fld (pv 0) rfl) pa_nil)))))) pss_nil)
        (pss_one (ps_ret (pe_joined (.cons (pe_fmt (pe_call G_show_table hr (by rfl) g_show_table F_show_table.kp b_show_table .nil pass0 (pa_cons (pe_fld (pv 0) rfl) pa_nil))) (.cons pe_str (.cons (pe_fmt (pe_fld (pv 0) rfl)) .nil))))))), ?_⟩
    walk_at "go"
    refine w_gnd CF hf ?_
    walk_at "go"
    refine w_ite (fun hc => ?_) (fun hc => ?_)
    · walk_at "go"
      refine w_tab CF hf ?_
      walk_at "go"
      refine ⟨tv, t, rfl, ht, hs, hl, fun H1 s1 => ?_⟩
      walk_at "go"
      refine .inl ⟨_, rfl, Nat.le_trans (tabT_ok hs hl).1 (by decide), ?_⟩
      have := q _ s1
      unfold formT at this
      rw [if_pos (by omega)] at this
      exact this
    · have zl : (1000000 : Nat) ≤ sizeLine := by decide
      have lt := (tabT_ok hs hl).1
      have lg := (ok_int hgl).1
      have l0 : Str.empty.length = 0 := rfl
      have l4 : (Str.ofString " by ").length = 4 := by decide
      walk_at "go"
      refine w_tab CF hf ?_
      walk_at "go"
      refine ⟨tv, t, rfl, ht, hs, hl, fun H1 s1 => ?_⟩
      refine .inl ⟨_, rfl, by omega, _, rfl, by rw [Str.length_append]; omega, ?_⟩
      walk_at "go"
      refine ⟨_, rfl, by rw [Str.length_append, Str.length_append]; omega, ?_⟩
      walk_at "go"
      refine w_gnd CF (hf.sm s1) ?_
      refine .inr ⟨g, rfl, hgl, _, rfl, by rw [Str.length_append, Str.length_append, Str.length_append]; omega, ?_⟩
      walk_at "go"
      have := q _ s1
      unfold formT at this
      rw [if_neg (by omega)] at this
      rw [Str.empty_append]
      exact this
theorem ok_table_parts {f : Addr} {fd : FuncData} (F : FnP K "table_parts" s_table_parts f fd)
    {f_row_parts : Addr} {fd_row_parts : FuncData} (F_row_parts : FnP K "row_parts" s_row_parts f_row_parts fd_row_parts) (b_row_parts : Binds K fd_row_parts ["text"] []) (g_row_parts : mg "row_parts" = some (.ref f_row_parts)) (G_row_parts : FnOk P w K mg base CX0 3 f_row_parts fd_row_parts ["text"] (sp_row_parts K)) (m_tuple : mg "tuple" = none) :
    FnOk P w K mg base CX0 4 f fd ["text"] (sp_table_parts K) := by
  refine F.ok sc_table_parts (fun vs H Q E h => ?_) (fun cdv A outer s H vs Q E hr h => ?_)
  · obtain ⟨s, rfl, hs, hsm, q⟩ := h
    rfl
  · obtain ⟨s, rfl, hs, hsm, q⟩ := h
    refine ⟨_, PSs.nox (pss_one (ps_ret (pe_callTy call_tuple_of (by rfl) m_tuple (by decide +kernel) (pa_cons (pe_lc (own := [("part", 1)]) (g := gName 1) (tt := tYes) (by rfl) sc_table_parts.nd (pi_list (pe_split (pv 0) pe_str)) (blkOk_by (own := [("part", 1)]) (N := ["text", "part"]) (sc := defScope s_table_parts) (by decide +kernel)) (fun _ _ _ _ _ => (pg_name (i := 1) sc_table_parts.nd rfl (.inl rfl))) (fun _ _ _ _ _ => pts_nil) (fun _ _ _ _ _ => (pe_call G_row_parts hr (by rfl) g_row_parts F_row_parts.kp b_row_parts .nil pass0 (pa_cons (pv 1) pa_nil)))) pa_nil)))), ?_⟩
    have zl : (1000000 : Nat) ≤ sizeLine := by decide
    have ⟨l1, l2⟩ := split_len (x := s) (y := Str.ofString " / ") (by decide) (by decide +kernel)
    have el : (tabN s).length = (Txt.split s (Str.ofString " / ")).length := by unfold tabN; rw [List.length_map]
    have eg : ∀ i, (tabN s)[i]? = ((Txt.split s (Str.ofString " / "))[i]?).map rowN := fun i => by unfold tabN; rw [List.getElem?_map]
    walk_at "go"
    refine ⟨⟨_, rfl⟩, ?_⟩
    walk_at "go"
    refine ⟨_, _, rfl, rfl, by decide, by omega, fun p hp => ?_⟩
    have s1 := Same.upd (Same.refl H) (o := .lst ((Txt.split s (Str.ofString " / ")).map V.str)) hp
    have hp1 : (upd H p (.lst ((Txt.split s (Str.ofString " / ")).map V.str))) p = some (.lst ((Txt.split s (Str.ofString " / ")).map V.str)) := upd_same
    revert s1 hp1
    generalize upd H p (.lst ((Txt.split s (Str.ofString " / ")).map V.str)) = H1
    intro s1 hp1
    refine ⟨p, rfl, ⟨_, SqL.of hp1⟩, fun D hD => ?_⟩
    refine lc_list (xs := (Txt.split s (Str.ofString " / ")).map V.str) (fun i H' => Same H1 H' ∧ ∃ zs, H' D = some (.lst zs) ∧ Acc (SqV OpV) H' zs (tabN s) i) ⟨Same.updD (Same.refl H1) hD, [], upd_same, Acc.nil⟩ (fun i H' _ hP => SqL.of (hP.1 _ _ hp1)) (fun i x H' hxi hP => ?_) (fun H' hP => ?_)
    · obtain ⟨sm, zs, hD', hac⟩ := hP
      rw [List.getElem?_map] at hxi
      obtain ⟨y, hy, rfl⟩ := Option.map_eq_some_iff.mp hxi
      have hi := (List.getElem?_eq_some_iff.mp hy).1
      have hm := List.mem_of_getElem? hy
      walk_at "go"
      refine ⟨rfl, ?_⟩
      walk_at "go"
      refine ⟨y, rfl, by have := l2 y hm; omega, hsm y hm, fun v H2 s2 hv => ?_⟩
      refine ⟨_, s2 _ _ hD', ?_, ?_⟩
      · have := hac.1
        rw [this]
        exact Nat.lt_of_lt_of_le (Nat.lt_of_lt_of_le (show i < 1000000 by omega) zl) (by decide)
      · refine ⟨Same.updD (sm.trans s2) hD, _, upd_same, ?_⟩
        refine Acc.snoc ((hac.mono fun x a h => sqO_kt h (Kt.of s2)).mono fun x a h => sqO_kt h (Kt.updL (s2 _ _ hD'))) (by rw [eg, hy]; rfl) (sqO_kt hv (Kt.updL (s2 _ _ hD')))
    · obtain ⟨sm, zs, hD', hac⟩ := hP
      rw [List.length_map, ← el] at hac
      walk_at "go"
      refine ⟨D, zs, rfl, .inl ⟨SqL.of hD', fun l hl => ?_⟩⟩
      refine q _ _ (Same.trans (s1.trans sm) (Same.upd (Same.refl _) hl)) (Acc.sq (hac.mono fun x a h => sqO_kt h (Kt.of (Same.upd (Same.refl _) hl))) rfl upd_same)
theorem ok__law_scaled {f : Addr} {fd : FuncData} (F : FnP K "_law_scaled" s__law_scaled f fd)
    {f__law_times : Addr} {fd__law_times : FuncData} (F__law_times : FnP K "_law_times" s__law_times f__law_times fd__law_times) (b__law_times : Binds K fd__law_times ["_law_g", "_law_x", "_law_y"] []) (g__law_times : mg "_law_times" = some (.ref f__law_times)) (G__law_times : FnOk P w K mg base CX0 3 f__law_times fd__law_times ["_law_g", "_law_x", "_law_y"] (sp__law_times K)) (m_tuple : mg "tuple" = none) :
    FnOk P w K mg base CX0 4 f fd ["_law_g", "_law_row", "_law_x"] (sp__law_scaled K) := by
  refine F.ok sc__law_scaled (fun vs H Q E h => ?_) (fun cdv A outer s H vs Q E hr h => ?_)
  · obtain ⟨g, x, y, r, c, rfl, hg0, hg, hx, hy, hn, hgx, hgc, q⟩ := h
    rfl
  · obtain ⟨g, x, y, r, c, rfl, hg0, hg, hx, hy, hn, hgx, hgc, q⟩ := h
    refine ⟨_, PSs.nox (pss_one (ps_ret (pe_callTy call_tuple_of (by rfl) m_tuple (by decide +kernel) (pa_cons (pe_lc (own := [("_law_one", 3)]) (g := gName 3) (tt := tYes) (by rfl) sc__law_scaled.nd (pi_tup (pv 1)) (blkOk_by (own := [("_law_one", 3)]) (N := ["_law_g", "_law_row", "_law_x", "_law_one"]) (sc := defScope s__law_scaled) (by decide +kernel)) (fun _ _ _ _ _ => (pg_name (i := 3) sc__law_scaled.nd rfl (.inl rfl))) (fun _ _ _ _ _ => pts_nil) (fun _ _ _ _ _ => (pe_call G__law_times hr (by rfl) g__law_times F__law_times.kp b__law_times .nil pass0 (pa_cons (pv 0) (pa_cons (pv 3) (pa_cons (pv 2) pa_nil)))))) pa_nil)))), ?_⟩
    obtain ⟨px, xs, rfl, hpx, hlx, hxs⟩ := hx
    walk_at "go"
    refine ⟨px, rfl, ⟨xs, SqT.of hpx⟩, fun D hD => ?_⟩
    refine lc_tup (xs := xs) (fun i H' => Same H H' ∧ ∃ zs : List V, H' D = some (.lst zs) ∧ Acc NumV H' zs (r.map fun a => timesF g a c) i) ⟨Same.updD (Same.refl H) hD, [], upd_same, Acc.nil⟩ (fun i H' _ hP => SqT.of (hP.1 _ _ hpx)) (fun i x H1 hxi hP => ?_) (fun H' hP => ?_)
    · obtain ⟨sm, zs, hzs, hz⟩ := hP
      have hi : i < r.length := by
        have := (List.getElem?_eq_some_iff.mp hxi).1
        omega
      have gr : r[i]? = some r[i] := List.getElem?_eq_getElem hi
      walk_at "go"
      refine ⟨rfl, ?_⟩
      walk_at "go"
      refine ⟨g, x, y, _, c, rfl, hg0, hg, (hxs i x _ hxi gr).kt (Kt.of sm), hy.kt (Kt.of sm), hgx _ (List.getElem_mem hi), hgc, fun p3 H3 hp3 s3 h3 => ?_⟩
      have h3D := s3 _ _ hzs
      have kt : Kt H1 (upd H3 D (.lst (zs ++ [V.ref p3]))) := (Kt.of s3).trans (Kt.updL h3D)
      refine ⟨zs, h3D, small1000 (by rw [hz.1]; omega), Same.updD (sm.trans s3) hD, _, upd_same, ?_⟩
      exact (hz.mono fun x a h => NumV.kt h kt).snoc (a := timesF g r[i] c) (by rw [List.getElem?_map, gr]; rfl) ⟨p3, rfl, Kt.updL h3D _ _ h3⟩
    · obtain ⟨sm, zs, hzs, hz⟩ := hP
      walk_at "go"
      refine ⟨D, zs, rfl, .inl ⟨SqL.of hzs, fun l hl' => ?_⟩⟩
      exact q _ _ (sm.trans (same_upd hl')) ((hz.mono fun x a h => NumV.kt h (Kt.of (same_upd hl'))).sq (by rw [List.length_map]; exact hlx) upd_same)
theorem ok__law_added {f : Addr} {fd : FuncData} (F : FnP K "_law_added" s__law_added f fd)
    {f__law_plus : Addr} {fd__law_plus : FuncData} (F__law_plus : FnP K "_law_plus" s__law_plus f__law_plus fd__law_plus) (b__law_plus : Binds K fd__law_plus ["_law_g", "_law_x", "_law_y"] []) (g__law_plus : mg "_law_plus" = some (.ref f__law_plus)) (G__law_plus : FnOk P w K mg base CX0 3 f__law_plus fd__law_plus ["_law_g", "_law_x", "_law_y"] (sp__law_plus K)) (m_tuple : mg "tuple" = none) (m_zip : mg "zip" = none) :
    FnOk P w K mg base CX0 4 f fd ["_law_g", "_law_row", "_law_other"] (sp__law_added K) := by
  refine F.ok sc__law_added (fun vs H Q E h => ?_) (fun cdv A outer s H vs Q E hr h => ?_)
  · obtain ⟨g, x, y, rx, ry, rfl, hg0, hg, hx, hy, hl, hn, hgx, hgy, q⟩ := h
    rfl
  · obtain ⟨g, x, y, rx, ry, rfl, hg0, hg, hx, hy, hl, hn, hgx, hgy, q⟩ := h
    refine ⟨_, PSs.nox (pss_one (ps_ret (pe_callTy call_tuple_of (by rfl) m_tuple (by decide +kernel) (pa_cons (pe_lc (own := [("_law_one", 3), ("_law_two", 4)]) (g := gTup K 2 (gCons (gName 3) (gCons (gName 4) (gNil)))) (tt := tYes) (by rfl) sc__law_added.nd (RZ.pi_zipA (by rfl) m_zip (pa_cons (pv 1) (pa_cons (pv 2) pa_nil))) (blkOk_by (own := [("_law_one", 3), ("_law_two", 4)]) (N := ["_law_g", "_law_row", "_law_other", "_law_one", "_law_two"]) (sc := defScope s__law_added) (by decide +kernel)) (fun _ _ _ _ _ => (pg_tup rfl (pgs_cons (pg_name (i := 3) sc__law_added.nd rfl (.inl rfl)) (pgs_cons (pg_name (i := 4) sc__law_added.nd rfl (.inl rfl)) pgs_nil)))) (fun _ _ _ _ _ => pts_nil) (fun _ _ _ _ _ => (pe_call G__law_plus hr (by rfl) g__law_plus F__law_plus.kp b__law_plus .nil pass0 (pa_cons (pv 0) (pa_cons (pv 3) (pa_cons (pv 4) pa_nil)))))) pa_nil)))), ?_⟩
    obtain ⟨px, xs, rfl, hpx, hlx, hxs⟩ := hx
    obtain ⟨py, ys, rfl, hpy, hly, hys⟩ := hy
    walk_at "go"
    refine ⟨px, py, xs, ys, rfl, .inr ⟨SqT.of hpx, SqT.of hpy, fun D hD => ?_⟩⟩
    refine lc_it (walk_zipT (xs := xs) (ys := ys) (n := rx.length) (by omega)) (fun i H' => Same H H' ∧ ∃ zs : List V, H' D = some (.lst zs) ∧ Acc NumV H' zs (List.zipWith (plusF g) rx ry) i) ⟨Same.updD (Same.refl H) hD, [], upd_same, Acc.nil⟩ (fun i H' _ hP => ⟨SqT.of (hP.1 _ _ hpx), SqT.of (hP.1 _ _ hpy)⟩) (fun i v H1 H2 hi hP hY => ?_) (fun H' hP => ?_)
    · obtain ⟨sm, zs, hzs, hz⟩ := hP
      obtain ⟨T, u, v', rfl, hT, rfl, hu, hv⟩ := hY
      have s2 : Same H1 (upd H1 T (.tup [u, v'])) := same_upd hT
      have hTT : (upd H1 T (.tup [u, v'])) T = some (.tup [u, v']) := upd_same
      generalize upd H1 T (.tup [u, v']) = H2 at s2 hTT ⊢
      have ga : rx[i]? = some (rx[i]'(by omega)) := List.getElem?_eq_getElem (by omega)
      have gc : ry[i]? = some (ry[i]'(by omega)) := List.getElem?_eq_getElem (by omega)
      have na := hgx _ (List.getElem_mem (show i < rx.length by omega))
      have nc := hgy _ (List.getElem_mem (show i < ry.length by omega))
      walk_at "go"
      refine ⟨rfl, ?_⟩
      walk_at "go"
      have s02 := sm.trans s2
      refine ⟨g, u, v', _, _, rfl, hg0, hg, (hxs i u _ hu ga).kt (Kt.of s02), (hys i v' _ hv gc).kt (Kt.of s02), na, nc, fun p3 H3 hp3 s3 h3 => ?_⟩
      have h3D := s3 _ _ (s2 _ _ hzs)
      have kt : Kt H1 (upd H3 D (.lst (zs ++ [V.ref p3]))) := (Kt.of (s2.trans s3)).trans (Kt.updL h3D)
      refine ⟨zs, h3D, small1000 (by rw [hz.1]; omega), Same.updD (s02.trans s3) hD, _, upd_same, ?_⟩
      exact (hz.mono fun x a h => NumV.kt h kt).snoc (a := plusF g (rx[i]'(by omega)) (ry[i]'(by omega))) (by rw [List.getElem?_zipWith, ga, gc]) ⟨p3, rfl, Kt.updL h3D _ _ h3⟩
    · obtain ⟨sm, zs, hzs, hz⟩ := hP
      walk_at "go"
      refine ⟨D, zs, rfl, .inl ⟨SqL.of hzs, fun l hl' => ?_⟩⟩
      exact q _ _ (sm.trans (same_upd hl')) ((hz.mono fun x a h => NumV.kt h (Kt.of (same_upd hl'))).sq (by rw [List.length_zipWith]; omega) upd_same)
theorem ok__law_other_than_nought {f : Addr} {fd : FuncData} (F : FnP K "_law_other_than_nought" s__law_other_than_nought f fd)
    {f__law_number : Addr} {fd__law_number : FuncData} (F__law_number : FnP K "_law_number" s__law_number f__law_number fd__law_number) (b__law_number : Binds K fd__law_number ["_law_bag_here", "_law_g"] []) (g__law_number : mg "_law_number" = some (.ref f__law_number)) (G__law_number : FnOk P w K mg base CX0 3 f__law_number fd__law_number ["_law_bag_here", "_law_g"] (sp__law_number K)) (m_int : mg "int" = none) :
    FnOk P w K mg base CX0 4 f fd ["_law_bag_here", "_law_g"] (sp__law_other_than_nought K) := by
  refine F.ok sc__law_other_than_nought (fun vs H Q E h => ?_) (fun cdv A outer s H vs Q E hr h => ?_)
  · obtain ⟨b, g, rfl, hgr, hb, q⟩ := h
    rfl
  · obtain ⟨b, g, rfl, hgr, hb, q⟩ := h
    refine ⟨_, PSs.nox (pss_cons (ps_set (i := 2) sc__law_other_than_nought.nd rfl (.inl rfl) (pe_call G__law_number hr (by rfl) g__law_number F__law_number.kp b__law_number .nil pass0 (pa_cons (pv 0) (pa_cons (pv 1) pa_nil))))
        (pss_one (ps_ret (pe_ix ix_list (pe_lst (pa_cons (pv 2) (pa_cons (pe_tup (pa_cons pe_int (pa_cons pe_int pa_nil))) pa_nil))) (pe_callTy call_int1 (by rfl) m_int (by decide +kernel) (pa_cons (pe_cmpR (op_eqD hr.units) (pv 2) (pe_tup (pa_cons pe_int (pa_cons pe_int pa_nil))) (nomark _)) pa_nil)) (fun _ _ => rfl))))), ?_⟩
    have hg3 := hgr.three
    walk_at "go"
    refine ⟨b, g, rfl, hgr, hb, fun H1 v a hv hng ta m1 hb1 => ?_⟩
    obtain ⟨pv', rfl, hpv⟩ := hv
    walk_at "go"
    refine w_new (by simp) fun p2 H2 hp2 s2 h2 => ?_
    walk_at "go"
    refine w_new (by simp) fun p3 H3 hp3 s3 h3 => ?_
    walk_at "go"
    refine w_new (by simp) fun p4 H4 hp4 s4 h4 => ?_
    have s24 := s2.trans (s3.trans s4)
    have hpv4 := s24 _ _ hpv
    refine w_eqNum ⟨pv', rfl, hpv4⟩ (b := (0, 1)) ⟨p4, rfl, h4⟩ ?_
    walk_at "go"
    refine .inr ⟨_, rfl, ?_⟩
    refine w_ixL (s4 _ _ h3) pick_two ?_
    by_cases e : a = (0, 1)
    · rw [decide_eq_true e, if_pos rfl]
      exact q _ _ (1, 1) ⟨p2, rfl, s4 _ _ (s3 _ _ h2)⟩ ⟨by decide, by decide, by decide, hg3.imp id fun h => ⟨h.1, h.2, rfl⟩⟩ ((tn_one hgr.two).mono (by decide)) (by decide) (m1.trans (Mv.same s24)) (hb1.same s24)
    · rw [decide_eq_false e, if_neg Bool.false_ne_true]
      exact q _ _ a ⟨pv', rfl, hpv4⟩ hng ta (fun z => e (ta.zero.mp z)) (m1.trans (Mv.same s24)) (hb1.same s24)
theorem ok__law_form_text {f : Addr} {fd : FuncData} (F : FnP K "_law_form_text" s__law_form_text f fd)
    {f__law_table_text : Addr} {fd__law_table_text : FuncData} (F__law_table_text : FnP K "_law_table_text" s__law_table_text f__law_table_text fd__law_table_text) (b__law_table_text : Binds K fd__law_table_text ["_law_table"] []) (g__law_table_text : mg "_law_table_text" = some (.ref f__law_table_text)) (G__law_table_text : FnOk P w K mg base CX0 3 f__law_table_text fd__law_table_text ["_law_table"] (sp__law_table_text K)) (m_str : mg "str" = none) :
    FnOk P w K mg base CX0 4 f fd ["_law_g", "_law_table"] (sp__law_form_text K) := by
  refine F.ok sc__law_form_text (fun vs H Q E h => ?_) (fun cdv A outer s H vs Q E hr h => ?_)
  · obtain ⟨g, tv, t, rfl, ht, hs, hl, hg0, hgl, q⟩ := h
    rfl
  · obtain ⟨g, tv, t, rfl, ht, hs, hl, hg0, hgl, q⟩ := h
    refine ⟨_, PSs.nox (pss_one (ps_ret (pe_op op_add_str (pe_call G__law_table_text hr (by rfl) g__law_table_text F__law_table_text.kp b__law_table_text .nil pass0 (pa_cons (pv 1) pa_nil)) (pe_cutE (pe_ifExp (pt_cmpR op_eq (pv 0) pe_int (nomark _)) pe_str (pe_op op_add_str pe_str (pe_callTy call_str_int (by rfl) m_str (by decide +kernel) (pa_cons (pv 0) pa_nil)))))))), ?_⟩
    walk_at "go"
    refine ⟨tv, t, rfl, ht, hs, hl, fun H1 s1 => ?_⟩
    have zl : (1000000 : Nat) ≤ sizeLine := by decide
    have lt := (tabT_ok hs hl).1
    have lg := (ok_int hgl).1
    have l0 : (Str.ofString "").length = 0 := rfl
    have l4 : (Str.ofString " by ").length = 4 := by decide
    refine w_cutE (fun v J => Same H1 J ∧ v = .str (if g = 0 then Str.ofString "" else Str.ofString " by " ++ (toString g : Str))) ?_ (fun v3 H3 hM => ?_)
    · walk_at "go"
      refine w_ite (fun h0 => ?_) (fun h0 => ?_)
      · walk_at "go"
        exact ⟨Same.refl _, by rw [if_pos h0]⟩
      · walk_at "go"
        refine ⟨hgl, _, _, rfl, rfl, by omega, Same.refl _, by rw [if_neg h0]⟩
    · obtain ⟨s3, rfl⟩ := hM
      refine ⟨_, _, rfl, rfl, ?_, ?_⟩
      · split <;> (try rw [Str.length_append]) <;> omega
      · have := q _ (s1.trans s3)
        unfold formT at this
        by_cases h0 : g = 0
        · rw [if_pos h0] at this ⊢
          rw [show tabT t ++ Str.ofString "" = tabT t from PySem.Str.append_empty _]
          exact this
        · rw [if_neg h0] at this ⊢
          rw [← PySem.Str.append_assoc]
          exact this
theorem ok_is_form_table {f : Addr} {fd : FuncData} (F : FnP K "is_form_table" s_is_form_table f fd)
    {f_is_table : Addr} {fd_is_table : FuncData} (F_is_table : FnP K "is_table" s_is_table f_is_table fd_is_table) (b_is_table : Binds K fd_is_table ["ground", "thing", "high", "wide"] []) (g_is_table : mg "is_table" = some (.ref f_is_table)) (G_is_table : FnOk P w K mg base CX0 4 f_is_table fd_is_table ["ground", "thing", "high", "wide"] (sp_is_table K))
    {f_turned : Addr} {fd_turned : FuncData} (F_turned : FnP K "turned" s_turned f_turned fd_turned) (b_turned : Binds K fd_turned ["table"] []) (g_turned : mg "turned" = some (.ref f_turned)) (G_turned : FnOk P w K mg base CX0 1 f_turned fd_turned ["table"] (sp_turned K))
    {f_determinant : Addr} {fd_determinant : FuncData} (F_determinant : FnP K "determinant" s_determinant f_determinant fd_determinant) (b_determinant : Binds K fd_determinant ["ground", "table"] []) (g_determinant : mg "determinant" = some (.ref f_determinant)) (G_determinant : FnOk P w K mg base CX0 3 f_determinant fd_determinant ["ground", "table"] (sp_determinant K)) {t_MOST_LETTERS : Tok} (mg_MOST_LETTERS : mg "MOST_LETTERS" = some (.int 5 t_MOST_LETTERS)) {t_MOST_LETTERS_ON_A_WHEEL : Tok} (mg_MOST_LETTERS_ON_A_WHEEL : mg "MOST_LETTERS_ON_A_WHEEL" = some (.int 4 t_MOST_LETTERS_ON_A_WHEEL)) (m_len : mg "len" = none) (m_isinstance : mg "isinstance" = none) (m_tuple : mg "tuple" = none) :
    FnOk P w K mg base CX0 5 f fd ["ground", "thing"] (sp_is_form_table K) := by
  refine F.ok sc_is_form_table (fun vs H Q E h => ?_) (fun cdv A outer s H vs Q E hr h => ?_)
  · obtain ⟨g, v, t, m, D, M, a, F', R, W, rfl, hg, hv, hf, hm1, hm, hmw, hD0, hD, hM, ha4, ha, q⟩ := h
    rfl
  · obtain ⟨g, v, t, m, D, M, a, F', R, W, rfl, hg, hv, hf, hm1, hm, hmw, hD0, hD, hM, ha4, ha, q⟩ := h
    refine ⟨_, PSs.nox (pss_cons (ps_if (pt_not (pt_val (pe_callB call_isi (by rfl) m_isinstance (by decide +kernel) (pa_cons (pv 1) (pa_cons (pe_bltn (v := .ty "tuple") (by rfl) m_tuple (by decide +kernel) rfl) pa_nil))))) (pss_one (ps_ret pe_bl)) pss_nil)
        (pss_cons (ps_set (i := 2) sc_is_form_table.nd rfl (.inl rfl) (pe_callB call_len_seq (by rfl) m_len (by decide +kernel) (pa_cons (pv 1) pa_nil)))
        (pss_cons (ps_set (i := 3) sc_is_form_table.nd rfl (.inl rfl) (pe_ifExp (pt_cmpR op_eq (pv 0) pe_int (nomark _)) (pe_glob (v := .int 5) (by rfl) mg_MOST_LETTERS ⟨_, rfl⟩) (pe_glob (v := .int 4) (by rfl) mg_MOST_LETTERS_ON_A_WHEEL ⟨_, rfl⟩)))
        (pss_cons (ps_if (PW.pt (pw_or (pt_not (pt_chain op_le op_le pe_int (pv 2) (pv 3))) (pw_or1 (pt_not (pt_val (pe_call G_is_table hr (by rfl) g_is_table F_is_table.kp b_is_table .nil pass0 (pa_cons (pv 0) (pa_cons (pv 1) (pa_cons (pv 2) (pa_cons (pv 2) pa_nil)))))))))) (pss_one (ps_ret pe_bl)) pss_nil)
        (pss_one (ps_ret (pe_and (pe_cmpR (op_eqD hr.units) (pe_call G_turned (hr.mono (by decide)) (by rfl) g_turned F_turned.kp b_turned .nil pass0 (pa_cons (pv 1) pa_nil)) (pv 1) (nomark _)) (pe_one (pe_cmpR op_ne (pe_ix ix_tup (pe_call G_determinant (hr.mono (by decide)) (by rfl) g_determinant F_determinant.kp b_determinant .nil pass0 (pa_cons (pv 0) (pa_cons (pv 1) pa_nil))) pe_int (fun _ _ => rfl)) pe_int (nomark _)))))))))), ?_⟩
    have htl := hf.len
    obtain ⟨p, xs, rfl, hp, hlx, hxs⟩ := id hv
    have hrow : ∀ r ∈ t, r.length = m ∧ ∀ c ∈ r, TN g (a + 1) c := fun r hr' => ⟨(hf.row r hr').1, (hf.row r hr').tn hg (by omega) hD0 (pw_lt hD (by omega)) (pw_lt hM (by omega))⟩
    walk_at "go"
    refine w_isT hp ?_
    walk_at "go"
    refine iteF ?_
    walk_at "go"
    refine ⟨p, xs, rfl, .inr (SqT.of hp), ?_⟩
    walk_at "go"
    refine w_ite (fun hc => ?_) (fun hc => ?_)
    all_goals
      walk_at "go"
      refine w_ite (fun h1 => ?_) (fun h1 => absurd (show (1 : Int) ≤ (xs.length : Int) by omega) h1)
      walk_at "go"
      refine w_iteN (fun h2 => absurd ?_ h2) (fun h2 => ?_)
      · omega
      walk_at "go"
      refine ⟨g, .ref p, (xs.length : Int), (xs.length : Int), a + 1, 0, rfl, tabV_tb hv (by omega) (fun r hr' => ⟨by rw [(hrow r hr').1]; omega, (hrow r hr').2⟩), fun H1 s1 => ?_⟩
      rw [tab_true hv (by omega) (fun r hr' => ⟨by rw [(hrow r hr').1]; omega, fun c hc => ((hrow r hr').2 c hc).num⟩)]
      walk_at "go"
      refine iteF ?_
      walk_at "go"
      have hv1 := TabV.kt hv (Kt.of s1)
      refine ⟨.ref p, t, m, rfl, hv1, by omega, by omega, fun r hr' => (hrow r hr').1, by omega, fun v2 H2 s2 h2 => ?_⟩
      walk_at "go"
      refine w_eqTab h2 (TabV.kt hv1 (Kt.of s2)) (hf.turn hg) ?_
      walk_at "go"
      refine ⟨g, .ref p, t, m, 4200, a + 1, 2 ^ a, F', R, W, rfl, hg, TabV.kt hv1 (Kt.of s2), htl, hrow, hm1, by omega, by omega, Nat.le_trans (Nat.mul_le_mul (show a + 1 ≤ 801 by omega) hm) (by decide), by omega, fun r hr' => wr_tz hg (hf.row r hr').2 hD0 hD hM (Nat.le_trans (show 13 ≤ 2 ^ 4 by decide) (Nat.pow_le_pow_right (by decide) ha4)), Nat.pow_pos (by decide), ift_sz hm ha, by decide, by decide, fun v3 H3 d s3 h3 td ed => ?_⟩
      obtain ⟨p3, rfl, hp3⟩ := h3
      walk_at "go"
      have hd0 : d.1 ≠ 0 := fun z => hf.det (by rw [← ed]; exact (e_zero hg td).mpr z)
      rw [decide_eq_false hd0]
      exact q _ (s1.trans (s2.trans s3))
theorem ok__law_through {f : Addr} {fd : FuncData} (F : FnP K "_law_through" s__law_through f fd)
    {f__law_added : Addr} {fd__law_added : FuncData} (F__law_added : FnP K "_law_added" s__law_added f__law_added fd__law_added) (b__law_added : Binds K fd__law_added ["_law_g", "_law_row", "_law_other"] []) (g__law_added : mg "_law_added" = some (.ref f__law_added)) (G__law_added : FnOk P w K mg base CX0 4 f__law_added fd__law_added ["_law_g", "_law_row", "_law_other"] (sp__law_added K))
    {f__law_scaled : Addr} {fd__law_scaled : FuncData} (F__law_scaled : FnP K "_law_scaled" s__law_scaled f__law_scaled fd__law_scaled) (b__law_scaled : Binds K fd__law_scaled ["_law_g", "_law_row", "_law_x"] []) (g__law_scaled : mg "_law_scaled" = some (.ref f__law_scaled)) (G__law_scaled : FnOk P w K mg base CX0 4 f__law_scaled fd__law_scaled ["_law_g", "_law_row", "_law_x"] (sp__law_scaled K)) (m_tuple : mg "tuple" = none) (m_zip : mg "zip" = none) (m_len : mg "len" = none) :
    FnOk P w K mg base CX0 5 f fd ["_law_g", "_law_row", "_law_table"] (sp__law_through K) := by
  refine F.ok sc__law_through (fun vs H Q E h => ?_) (fun cdv A outer s H vs Q E hr h => ?_)
  · obtain ⟨g, x, y, r, t, n, m, Dr, Dt, Mr, Mt, k, F', R, W, rfl, hg, hx, hy, htr, htl, hm1, hm, hn, ht, hDr, hDt, hD, hMr, hMt, hM, hk4, hk, q⟩ := h
    rfl
  · obtain ⟨g, x, y, r, t, n, m, Dr, Dt, Mr, Mt, k, F', R, W, rfl, hg, hx, hy, htr, htl, hm1, hm, hn, ht, hDr, hDt, hD, hMr, hMt, hM, hk4, hk, q⟩ := h
    refine ⟨_, PSs.nox (pss_cons (ps_set (i := 3) sc__law_through.nd rfl (.inl rfl) (pe_callTy call_tuple_of (by rfl) m_tuple (by decide +kernel) (pa_cons (pe_op op_rep (pe_lst (pa_cons (pe_tup (pa_cons pe_int (pa_cons pe_int pa_nil))) pa_nil)) (pe_callB call_len_seq (by rfl) m_len (by decide +kernel) (pa_cons (pe_ix ix_tup (pv 2) pe_int (fun _ _ => rfl)) pa_nil))) pa_nil)))
        (pss_cons (ps_for PassesOwn.never rfl (RZ.pi_zipA (by rfl) m_zip (pa_cons (pv 1) (pa_cons (pv 2) pa_nil))) (pg_tup rfl (pgs_cons (pg_name (i := 4) sc__law_through.nd rfl (.inl rfl)) (pgs_cons (pg_name (i := 5) sc__law_through.nd rfl (.inl rfl)) pgs_nil))) (pss_one (ps_set (i := 3) sc__law_through.nd rfl (.inl rfl) (pe_call G__law_added hr (by rfl) g__law_added F__law_added.kp b__law_added .nil pass0 (pa_cons (pv 0) (pa_cons (pv 3) (pa_cons (pe_call G__law_scaled hr (by rfl) g__law_scaled F__law_scaled.kp b__law_scaled .nil pass0 (pa_cons (pv 0) (pa_cons (pv 5) (pa_cons (pv 4) pa_nil)))) pa_nil)))))))
        (pss_one (ps_ret (pv 3))))), ?_⟩
    have ⟨hg0, hg13⟩ := grb hg
    have hDD : Dt * Dr ≠ 0 := Int.mul_ne_zero hDt hDr
    have hDrk : Dr.natAbs < 2 ^ k := by
      rw [Int.natAbs_mul] at hD
      exact Nat.lt_of_le_of_lt (Nat.le_mul_of_pos_left _ (by omega)) hD
    have hDtk : Dt.natAbs < 2 ^ k := by
      rw [Int.natAbs_mul] at hD
      exact Nat.lt_of_le_of_lt (Nat.le_mul_of_pos_right _ (by omega)) hD
    obtain ⟨px, xs, rfl, hpx, hlx, hxs⟩ := hx
    obtain ⟨py, ys, rfl, hpy, hly, hys⟩ := hy
    have hrl := htr.1
    have gt0 : t[0]? = some (t[0]'(by omega)) := List.getElem?_eq_getElem _
    have gy0 : ys[0]? = some (ys[0]'(by omega)) := List.getElem?_eq_getElem _
    obtain ⟨p0, xs0, e0, hp0, hl0, _⟩ := hys 0 _ _ gy0 gt0
    have hr0 := (ht _ (List.mem_of_getElem? gt0)).1
    rw [e0] at gy0
    walk_at "go"
    refine w_new (by simp) fun u H1 hu s1 h1 => ?_
    walk_at "go"
    refine w_new (by simp) fun l1 H2 hl1 s2 h2 => ?_
    walk_at "go"
    refine w_ixT (s2 _ _ (s1 _ _ hpy)) (atI_nat (j := 0) gy0) ?_
    walk_at "go"
    refine ⟨p0, xs0, rfl, .inr (SqT.of (s2 _ _ (s1 _ _ hp0))), ?_⟩
    rw [show xs0.length = n by omega]
    walk_at "go"
    refine w_rep h2 (by omega) (by omega) (by simp) ?_
    refine w_newO fun l3 H3 hl3 s3 h3 => ?_
    walk_at "go"
    refine ⟨_, _, rfl, .inl ⟨SqL.of h3, fun l4 hl4' => ?_⟩⟩
    rw [Int.toNat_natCast]
    have s4 := same_upd (o := HO.tup (List.replicate n [V.ref u]).flatten) hl4'
    have h4 : (upd H3 l4 (.tup (List.replicate n [V.ref u]).flatten)) l4 = some (.tup (List.replicate n [V.ref u]).flatten) := upd_same
    generalize upd H3 l4 (.tup (List.replicate n [V.ref u]).flatten) = H4 at s4 h4 ⊢
    have s04 := s1.trans (s2.trans (s3.trans s4))
    have hz4 := row_zeros (s4 _ _ (s3 _ _ (s2 _ _ h1))) h4
    walk_at "go"
    refine ⟨px, py, xs, ys, rfl, .inr ⟨SqT.of (s04 _ _ hpx), SqT.of (s04 _ _ hpy), ?_⟩⟩
    refine for_it (walk_zipT (xs := xs) (ys := ys) (n := m) (by omega)) (fun i σ H' => ∃ (fv : V) (w : List (Int × Int)), (∃ y4 y5, σ = [some (.int g), some (.ref px), some (.ref py), some fv, y4, y5]) ∧ Same H H' ∧ RowV H' fv w ∧ RZ g (Dt * Dr) (i * (Mt * Mr)) n w ∧ er W w = fun j => SF (fun l => er W r l * ((t.map (er W)).getD l zr) j) i) ⟨_, _, ⟨_, _, rfl⟩, s04, hz4, rz_zero hg, er_zeros n⟩ (fun i σ H' _ hP => ?_) (fun i v σ Ha Hb hi hP hY => ?_) (fun σ H' hP => ?_)
    · obtain ⟨fv, w, _, sm, _⟩ := hP
      exact ⟨SqT.of (sm _ _ hpx), SqT.of (sm _ _ hpy)⟩
    · obtain ⟨fv, w, ⟨y4, y5, rfl⟩, sm, hw, hwz, her⟩ := hP
      obtain ⟨T, u1, v', rfl, hT, rfl, hu1, hv1⟩ := hY
      have sT : Same Ha (upd Ha T (.tup [u1, v'])) := same_upd hT
      have hTT : (upd Ha T (.tup [u1, v'])) T = some (.tup [u1, v']) := upd_same
      generalize upd Ha T (.tup [u1, v']) = H5 at sT hTT ⊢
      have s05 := sm.trans sT
      have gr : r[i]? = some (r[i]'(by omega)) := List.getElem?_eq_getElem _
      have gt1 : t[i]? = some (t[i]'(by omega)) := List.getElem?_eq_getElem _
      have tr := htr.2 _ (List.getElem_mem (show i < r.length by omega))
      have tt := ht _ (List.mem_of_getElem? gt1)
      have him : i * (Mt * Mr) ≤ (m + 1) * (Mt * Mr) := Nat.mul_le_mul_right _ (by omega)
      have h1m : 1 * (Mt * Mr) ≤ (m + 1) * (Mt * Mr) := Nat.mul_le_mul_right _ (by omega)
      have hsc := rz_times hg tt tr
      walk_at "go"
      refine ⟨g, v', u1, _, _, rfl, hg0, hg13, RowV.kt (hys i v' _ hv1 gt1) (Kt.of s05), (hxs i u1 _ hu1 gr).kt (Kt.of s05), by rw [tt.1]; omega, tt.be hg hk4 hk hDt hDtk hMt, (tr.tn hg hk4 hDr hDrk hMr).be hk, fun v6 H6 s6 h6 => ?_⟩
      refine ⟨g, fv, v6, w, _, rfl, hg0, hg13, RowV.kt hw (Kt.of (sT.trans s6)), h6, by rw [hwz.1, hsc.1], by rw [hwz.1]; omega, hwz.be hg hk4 hk hDD hD (by omega), hsc.be hg hk4 hk hDD hD (by omega), fun v7 H7 s7 h7 => ?_⟩
      walk_at "go"
      refine ⟨v7, _, ⟨_, _, rfl⟩, s05.trans (s6.trans s7), h7, ?_, ?_⟩
      · rw [Nat.succ_mul]
        exact rz_plus hg hwz hsc
      · rw [er_plus hg hwz hsc, her, er_times hg tt tr]
        funext j
        show SF (fun l => er W r l * ((t.map (er W)).getD l zr) j) i + W.e (r[i]'(by omega)) * er W (t[i]'(by omega)) j = SF (fun l => er W r l * ((t.map (er W)).getD l zr) j) i + er W r i * ((t.map (er W)).getD i zr) j
        have e1 : (t.map (er W)).getD i zr = er W (t[i]'(by omega)) := by
          rw [List.getD_eq_getElem?_getD, List.getElem?_map, gt1]
          rfl
        rw [e1, er_at (show i < r.length by omega)]
    · obtain ⟨fv, w, ⟨y4, y5, rfl⟩, sm, hw, hwz, her⟩ := hP
      walk_at "go"
      refine q _ _ w sm hw hwz ?_
      rw [her]
      funext j
      show _ = SF (fun l => er W r l * ((t.map (er W)).getD l zr) j) (t.map (er W)).length
      rw [List.length_map, htl]
theorem ok__law_wide_form {f : Addr} {fd : FuncData} (F : FnP K "_law_wide_form" s__law_wide_form f fd)
    {f__law_low : Addr} {fd__law_low : FuncData} (F__law_low : FnP K "_law_low" s__law_low f__law_low fd__law_low) (b__law_low : Binds K fd__law_low ["_law_g", "_law_up", "_law_down"] []) (g__law_low : mg "_law_low" = some (.ref f__law_low)) (G__law_low : FnOk P w K mg base CX0 2 f__law_low fd__law_low ["_law_g", "_law_up", "_law_down"] (sp__law_low K))
    {f__law_take : Addr} {fd__law_take : FuncData} (F__law_take : FnP K "_law_take" s__law_take f__law_take fd__law_take) (b__law_take : Binds K fd__law_take ["_law_bag_here", "_law_many"] []) (g__law_take : mg "_law_take" = some (.ref f__law_take)) (G__law_take : FnOk P w K mg base CX0 1 f__law_take fd__law_take ["_law_bag_here", "_law_many"] (sp__law_take K))
    {f__law_scaled : Addr} {fd__law_scaled : FuncData} (F__law_scaled : FnP K "_law_scaled" s__law_scaled f__law_scaled fd__law_scaled) (b__law_scaled : Binds K fd__law_scaled ["_law_g", "_law_row", "_law_x"] []) (g__law_scaled : mg "_law_scaled" = some (.ref f__law_scaled)) (G__law_scaled : FnOk P w K mg base CX0 4 f__law_scaled fd__law_scaled ["_law_g", "_law_row", "_law_x"] (sp__law_scaled K)) (m_tuple : mg "tuple" = none) :
    FnOk P w K mg base CX0 5 f fd ["_law_bag_here", "_law_g", "_law_table"] (sp__law_wide_form K) := by
  refine F.ok sc__law_wide_form (fun vs H Q E h => ?_) (fun cdv A outer s H vs Q E hr h => ?_)
  · obtain ⟨b, g, tv, t, m, F', R, W, rfl, hgr, hb, ht, hf, hm1, hm, q⟩ := h
    rfl
  · obtain ⟨b, g, tv, t, m, F', R, W, rfl, hgr, hb, ht, hf, hm1, hm, q⟩ := h
    refine ⟨_, PSs.nox (pss_cons (ps_if (PW.pt (pw_or (pt_cmpR op_gt (pv 1) pe_int (nomark _)) (pw_or1 (pt_cmpR op_gt (pe_call G__law_take (hr.mono (by decide)) (by rfl) g__law_take F__law_take.kp b__law_take .nil pass0 (pa_cons (pv 0) (pa_cons pe_int pa_nil))) pe_int (nomark _))))) (pss_one (ps_ret (pv 2))) pss_nil)
        (pss_cons (ps_set (i := 3) sc__law_wide_form.nd rfl (.inl rfl) (pe_ix ix_list (pe_lst (pa_cons pe_int (pa_cons (pe_op op_pow pe_int pe_int) (pa_cons (pe_op op_pow pe_int pe_int) (pa_cons (pe_op op_pow pe_int pe_int) pa_nil))))) (pe_call G__law_take (hr.mono (by decide)) (by rfl) g__law_take F__law_take.kp b__law_take .nil pass0 (pa_cons (pv 0) (pa_cons pe_int pa_nil))) (fun _ _ => rfl)))
        (pss_cons (ps_set (i := 4) sc__law_wide_form.nd rfl (.inr rfl) (pe_call G__law_low (hr.mono (by decide)) (by rfl) g__law_low F__law_low.kp b__law_low .nil pass0 (pa_cons pe_int (pa_cons (pe_op op_add pe_int (pe_op op_mulW (pe_call G__law_take (hr.mono (by decide)) (by rfl) g__law_take F__law_take.kp b__law_take .nil pass0 (pa_cons (pv 0) (pa_cons (pe_op op_pow pe_int pe_int) pa_nil))) (pv 3))) (pa_cons (pe_op op_add pe_int (pe_call G__law_take (hr.mono (by decide)) (by rfl) g__law_take F__law_take.kp b__law_take .nil pass0 (pa_cons (pv 0) (pa_cons (pe_op op_pow pe_int pe_int) pa_nil)))) pa_nil)))))
        (pss_one (ps_ret (pe_callTy call_tuple_of (by rfl) m_tuple (by decide +kernel) (pa_cons (pe_lc (own := [("_law_row", 5)]) (g := gName 5) (tt := tYes) (by rfl) sc__law_wide_form.nd (pi_tup (pv 2)) (blkOk_by (own := [("_law_row", 5)]) (N := ["_law_bag_here", "_law_g", "_law_table", "_law_far", "_law_x", "_law_row"]) (sc := defScope s__law_wide_form) (by decide +kernel)) (fun _ _ _ _ _ => (pg_name (i := 5) sc__law_wide_form.nd rfl (.inl rfl))) (fun _ _ _ _ _ => pts_nil) (fun _ _ _ _ _ => (pe_call G__law_scaled hr (by rfl) g__law_scaled F__law_scaled.kp b__law_scaled .nil pass0 (pa_cons pe_int (pa_cons (pv 5) (pa_cons (pv 4) pa_nil)))))) pa_nil))))))), ?_⟩
    have hg := hgr.two
    have ⟨hg0, hg13⟩ := hgr.bd
    walk_at "go"
    refine w_ite (fun hc => ?_) (fun hc => ?_)
    · refine iteT ?_
      walk_at "go"
      exact q _ _ _ _ _ ht hf (by decide) (by decide) (by decide) (Mv.same (Same.refl _)) hb
    have e0 : g = 0 := by omega
    subst e0
    walk_at "go"
    refine ⟨b, 3, rfl, by decide, by decide, hb, fun H1 d1 h10 h11 m1 hb1 => ?_⟩
    walk_at "go"
    refine w_ite (fun hc1 => ?_) (fun hc1 => ?_)
    · walk_at "go"
      exact q _ _ _ _ _ (TabV.kt ht (m1.kt hb)) hf (by decide) (by decide) (by decide) m1 hb1
    walk_at "go"
    refine w_I ⟨by decide, by decide, by decide⟩ ?_
    walk_at "go"
    refine w_I ⟨by decide, by decide, by decide⟩ ?_
    walk_at "go"
    refine w_I ⟨by decide, by decide, by decide⟩ ?_
    walk_at "go"
    refine w_new (by simp) fun p2 H2 hp2 s2 h2 => ?_
    walk_at "go"
    refine ⟨b, 4, rfl, by decide, by decide, hb1.same s2, fun H3 d3 h30 h31 m3 hb3 => ?_⟩
    obtain ⟨far, ef, f0, f1⟩ := far_four h30 h31
    refine w_ixL (m3 _ _ (bag_ne hb1 hp2) h2) ef ?_
    walk_at "go"
    refine w_I ⟨by decide, by decide, by decide⟩ ?_
    refine ⟨b, _, rfl, by decide, by decide, hb3, fun H4 d4 h40 h41 m4 hb4 => ?_⟩
    walk_at "go"
    refine w_I (far_mul h40 h41 f0 f1) ?_
    walk_at "go"
    refine w_I ⟨by decide, by decide, by decide⟩ ?_
    refine ⟨b, _, rfl, by decide, by decide, hb4, fun H5 d5 h50 h51 m5 hb5 => ?_⟩
    walk_at "go"
    obtain ⟨u0, u1⟩ := far_bd h40 h41 f0 f1
    have ub : (1 + d4 * far).natAbs < 2 ^ 231 := by
      generalize d4 * far = z at u0 u1
      omega
    have h51' : d5 < 1000000000 := h51
    have db : (1 + d5).natAbs < 2 ^ 231 := Nat.lt_of_lt_of_le (show (1 + d5).natAbs < 2 ^ 31 by omega) (by decide)
    have tx : TN 0 231 (lowF 0 (1 + d4 * far) (1 + d5)) := tn_low (.inl rfl) (by omega) (fun z => absurd rfl z) (by decide) ub db
    have nx0 : (lowF 0 (1 + d4 * far) (1 + d5)).1 ≠ 0 := fun z => by
      have e := tx.zero.mp z
      have hx := W.low (.inl rfl) (u := 1 + d4 * far) (d := 1 + d5) (by omega) (fun z => absurd rfl z)
      rw [e, W.zero] at hx
      exact W.ine (d := 1 + d4 * far) (by omega) (fun z => absurd rfl z) (by rw [← hx]; grind)
    refine ⟨0, _, 1 + d5, rfl, by decide, by decide, by omega, Nat.lt_of_lt_of_le db (Nat.pow_le_pow_right (by decide) (by decide)), fun px H6 hpx s6 h6 => ?_⟩
    have nx1 : W.e (lowF 0 (1 + d4 * far) (1 + d5)) ≠ 0 := fun z => nx0 ((e_zero (V := W) (.inl rfl) tx).mp z)
    have zx := TZ.of (.inl rfl) tx (by decide)
    generalize lowF 0 (1 + d4 * far) (1 + d5) = x at tx nx0 h6 nx1 zx
    have mv6 : Mv b H H6 := m1.trans ((Mv.same s2).trans (m3.trans (m4.trans (m5.trans (Mv.same s6)))))
    have hb6 := hb5.same s6
    have ht6 := TabV.kt ht (mv6.kt hb)
    have hx6 : NumV H6 (.ref px) x := ⟨px, rfl, h6⟩
    have hF := FrmT.scl (.inl rfl) zx nx1 hf
    have hpb : PBe x := ⟨Nat.lt_of_lt_of_le tx.2.1 (Nat.pow_le_pow_right (by decide) (by decide)), Nat.lt_of_lt_of_le tx.2.2 (Nat.pow_le_pow_right (by decide) (by decide)), by have := tx.pos; omega⟩
    obtain ⟨pt, xs, rfl, hpt, hlx, hxs⟩ := id ht6
    clear h6
    walk_at "go"
    refine ⟨pt, rfl, ⟨xs, SqT.of hpt⟩, fun D hD => ?_⟩
    refine lc_tup (xs := xs) (fun i H' => Same H6 H' ∧ ∃ zs : List V, H' D = some (.lst zs) ∧ Acc RowV H' zs (sclF 0 x t) i) ⟨Same.updD (Same.refl H6) hD, [], upd_same, Acc.nil⟩ (fun i H' _ hP => SqT.of (hP.1 _ _ hpt)) (fun i y H7 hxi hP => ?_) (fun H' hP => ?_)
    · obtain ⟨sm, zs, hzs, hz⟩ := hP
      have hi : i < t.length := by
        have := (List.getElem?_eq_some_iff.mp hxi).1
        omega
      have gr : t[i]? = some t[i] := List.getElem?_eq_getElem hi
      have hrz := hf.row _ (List.getElem_mem hi)
      walk_at "go"
      refine ⟨rfl, ?_⟩
      walk_at "go"
      refine ⟨0, y, .ref px, t[i], x, rfl, by decide, by decide, (hxs i y _ hxi gr).kt (Kt.of sm), hx6.kt (Kt.of sm), by rw [hrz.1]; omega, fun a ha => ?_, hpb, fun v H8 s8 h8 => ?_⟩
      · have := (hrz.2 a ha).tn (.inl rfl) (k := 45) (by decide) (by decide) (by decide) (by decide)
        exact ⟨Nat.lt_of_lt_of_le this.2.1 (Nat.pow_le_pow_right (by decide) (by decide)), Nat.lt_of_lt_of_le this.2.2 (Nat.pow_le_pow_right (by decide) (by decide)), by have := this.pos; omega⟩
      · have h8D := s8 _ _ hzs
        have kt : Kt H7 (upd H8 D (.lst (zs ++ [v]))) := (Kt.of s8).trans (Kt.updL h8D)
        refine ⟨zs, h8D, small1000 (by rw [hz.1]; have := hf.len; omega), Same.updD (sm.trans s8) hD, _, upd_same, ?_⟩
        exact (hz.mono fun x a h => RowV.kt h kt).snoc (a := t[i].map fun a => timesF 0 a x) (by unfold sclF; rw [List.getElem?_map, gr]; rfl) (RowV.kt h8 (Kt.updL h8D))
    · obtain ⟨sm, zs, hzs, hz⟩ := hP
      walk_at "go"
      refine ⟨D, zs, rfl, .inl ⟨SqL.of hzs, fun l hl' => ?_⟩⟩
      have bD : (2520 * x.2).natAbs ≤ 2 ^ 300 := by
        rw [Int.natAbs_mul]
        exact Nat.le_trans (Nat.mul_le_mul (show (2520 : Int).natAbs ≤ 2 ^ 12 by decide) (Nat.le_of_lt tx.2.2)) (by decide)
      have bM : 16128000000000 * x.1.natAbs ≤ 2 ^ 300 := Nat.le_trans (Nat.mul_le_mul (show 16128000000000 ≤ 2 ^ 44 by decide) (Nat.le_of_lt tx.2.1)) (by decide)
      refine q _ _ (sclF 0 x t) _ _ ((hz.mono fun x a h => RowV.kt h (Kt.of (same_upd hl'))).sq (by unfold sclF; rw [List.length_map]; exact hlx) upd_same) hF (by have := tx.pos; omega) bD bM (mv6.trans (Mv.same (sm.trans (same_upd hl')))) (hb6.same (sm.trans (same_upd hl')))
theorem ok_Form___init__ {f : Addr} {fd : FuncData} (F : FunD K "__init__" "Form.__init__" (defArgs s_Form___init__) (defBody s_Form___init__) (defScope s_Form___init__) [.int 0] [] f fd)
    {f_is_ground : Addr} {fd_is_ground : FuncData} (F_is_ground : FnP K "is_ground" s_is_ground f_is_ground fd_is_ground) (b_is_ground : Binds K fd_is_ground ["thing"] []) (g_is_ground : mg "is_ground" = some (.ref f_is_ground)) (G_is_ground : FnOk P w K mg base CX0 2 f_is_ground fd_is_ground ["thing"] (sp_is_ground K))
    {f_is_form_table : Addr} {fd_is_form_table : FuncData} (F_is_form_table : FnP K "is_form_table" s_is_form_table f_is_form_table fd_is_form_table) (b_is_form_table : Binds K fd_is_form_table ["ground", "thing"] []) (g_is_form_table : mg "is_form_table" = some (.ref f_is_form_table)) (G_is_form_table : FnOk P w K mg base CX0 5 f_is_form_table fd_is_form_table ["ground", "thing"] (sp_is_form_table K)) (CF : FormC K) :
    FnOk P w K mg base CX0 6 f fd ["self", "table", "ground"] (sp_Form___init__ K) := by
  refine F.ok sc_Form___init__ (fun vs H Q E h => ?_) (fun cdv A outer s H vs Q E hr h => ?_)
  · obtain ⟨x, dx, tv, g, t, m, D, M, a, F', R, W, rfl, hx, hg, ht, hf, hm1, hm, hmw, hD0, hD, hM, ha4, ha, q⟩ := h
    rfl
  · obtain ⟨x, dx, tv, g, t, m, D, M, a, F', R, W, rfl, hx, hg, ht, hf, hm1, hm, hmw, hD0, hD, hM, ha4, ha, q⟩ := h
    refine ⟨_, PSs.nox (pss_cons (ps_if (pt_not (pt_val (pe_call G_is_ground (hr.mono (by decide)) (by rfl) g_is_ground F_is_ground.kp b_is_ground .nil pass0 (pa_cons (pv 2) pa_nil)))) (pss_one ps_never) pss_nil)
        (pss_cons (ps_if (pt_not (pt_val (pe_call G_is_form_table hr (by rfl) g_is_form_table F_is_form_table.kp b_is_form_table .nil pass0 (pa_cons (pv 2) (pa_cons (pv 1) pa_nil))))) (pss_one ps_never) pss_nil)
        (pss_cons (ps_fld (pv 0) (pv 1) rfl)
        (pss_one (ps_fld (pv 0) (pv 2) rfl))))), ?_⟩
    have hgr : grdB (.int g) = true := by
      unfold Gr5 at hg
      rcases hg with rfl | rfl | rfl | rfl | rfl | rfl <;> rfl
    walk_at "go"
    refine ⟨g, rfl, ?_⟩
    rw [hgr]
    walk_at "go"
    refine iteF ?_
    walk_at "go"
    refine ⟨g, tv, t, m, D, M, a, F', R, W, rfl, hg, ht, hf, hm1, hm, hmw, hD0, hD, hM, ha4, ha, fun H1 s1 => ?_⟩
    walk_at "go"
    refine iteF ?_
    walk_at "go"
    refine ⟨x, _, dx, [], rfl, s1 _ _ hx, CF.c, CF.nt, by decide, ?_⟩
    walk_at "go"
    refine ⟨x, _, dx, _, rfl, upd_same, CF.c, CF.ng, (show 1 < 1000 by decide), ?_⟩
    exact q _ (fun b o n h => by rw [upd_ne n, upd_ne n]; exact s1 _ _ h) (by rw [upd_same]; rfl)
theorem ok__law_product {f : Addr} {fd : FuncData} (F : FnP K "_law_product" s__law_product f fd)
    {f__law_through : Addr} {fd__law_through : FuncData} (F__law_through : FnP K "_law_through" s__law_through f__law_through fd__law_through) (b__law_through : Binds K fd__law_through ["_law_g", "_law_row", "_law_table"] []) (g__law_through : mg "_law_through" = some (.ref f__law_through)) (G__law_through : FnOk P w K mg base CX0 5 f__law_through fd__law_through ["_law_g", "_law_row", "_law_table"] (sp__law_through K)) (m_tuple : mg "tuple" = none) :
    FnOk P w K mg base CX0 6 f fd ["_law_g", "_law_one", "_law_other"] (sp__law_product K) := by
  refine F.ok sc__law_product (fun vs H Q E h => ?_) (fun cdv A outer s H vs Q E hr h => ?_)
  · obtain ⟨g, x, y, ss, t, n, m, Dr, Dt, Mr, Mt, k, F', R, W, rfl, hg, hx, hy, hss, hsl, htl, hm1, hm, hn, ht, hDr, hDt, hD, hMr, hMt, hM, hk4, hk, q⟩ := h
    rfl
  · obtain ⟨g, x, y, ss, t, n, m, Dr, Dt, Mr, Mt, k, F', R, W, rfl, hg, hx, hy, hss, hsl, htl, hm1, hm, hn, ht, hDr, hDt, hD, hMr, hMt, hM, hk4, hk, q⟩ := h
    refine ⟨_, PSs.nox (pss_one (ps_ret (pe_callTy call_tuple_of (by rfl) m_tuple (by decide +kernel) (pa_cons (pe_lc (own := [("_law_row", 3)]) (g := gName 3) (tt := tYes) (by rfl) sc__law_product.nd (pi_tup (pv 1)) (blkOk_by (own := [("_law_row", 3)]) (N := ["_law_g", "_law_one", "_law_other", "_law_row"]) (sc := defScope s__law_product) (by decide +kernel)) (fun _ _ _ _ _ => (pg_name (i := 3) sc__law_product.nd rfl (.inl rfl))) (fun _ _ _ _ _ => pts_nil) (fun _ _ _ _ _ => (pe_call G__law_through hr (by rfl) g__law_through F__law_through.kp b__law_through .nil pass0 (pa_cons (pv 0) (pa_cons (pv 3) (pa_cons (pv 2) pa_nil)))))) pa_nil)))), ?_⟩
    obtain ⟨px, xs, rfl, hpx, hlx, hxs⟩ := hx
    walk_at "go"
    refine ⟨px, rfl, ⟨xs, SqT.of hpx⟩, fun D hDn => ?_⟩
    refine lc_tup (xs := xs) (fun i H' => Same H H' ∧ ∃ zs T, H' D = some (.lst zs) ∧ T.length = i ∧ Acc RowV H' zs T i ∧ (∀ r ∈ T, RZ g (Dt * Dr) (m * (Mt * Mr)) n r) ∧ T.map (er W) = ((ss.take i).map (er W)).map (thr (t.map (er W)))) ⟨Same.updD (Same.refl H) hDn, [], [], upd_same, rfl, Acc.nil, fun r hr => (by cases hr), rfl⟩ (fun i H' _ hP => SqT.of (hP.1 _ _ hpx)) (fun i x H1 hxi hP => ?_) (fun H' hP => ?_)
    · obtain ⟨sm, zs, T, hzs, hTl, hz, hTz, hTe⟩ := hP
      have hi : i < ss.length := by
        have := (List.getElem?_eq_some_iff.mp hxi).1
        omega
      have gs : ss[i]? = some ss[i] := List.getElem?_eq_getElem hi
      walk_at "go"
      refine ⟨rfl, ?_⟩
      walk_at "go"
      refine ⟨g, x, y, ss[i], t, n, m, Dr, Dt, Mr, Mt, k, F', R, W, rfl, hg, RowV.kt (hxs i x _ hxi gs) (Kt.of sm), TabV.kt hy (Kt.of sm), hss _ (List.getElem_mem hi), htl, hm1, hm, hn, ht, hDr, hDt, hD, hMr, hMt, hM, hk4, hk, fun v3 H3 w s3 h3 hwz hwe => ?_⟩
      have h3D := s3 _ _ hzs
      have kt : Kt H1 (upd H3 D (.lst (zs ++ [v3]))) := (Kt.of s3).trans (Kt.updL h3D)
      refine ⟨zs, h3D, small1000 (by rw [hz.1]; omega), Same.updD (sm.trans s3) hDn, _, T ++ [w], upd_same, by rw [List.length_append, hTl]; rfl, acc_app (hz.mono fun x a h => RowV.kt h kt) hTl (RowV.kt h3 (Kt.updL h3D)), fun r hr => ?_, ?_⟩
      · rcases List.mem_append.mp hr with h | h
        · exact hTz r h
        · rw [List.mem_singleton.mp h]
          exact hwz
      · rw [List.map_append, hTe, List.take_add_one, gs, Option.toList_some, List.map_append, List.map_append]
        show _ ++ [er W w] = _ ++ [thr (t.map (er W)) (er W ss[i])]
        rw [hwe]
    · obtain ⟨sm, zs, T, hzs, hTl, hz, hTz, hTe⟩ := hP
      rw [List.take_of_length_le (show ss.length ≤ xs.length by omega)] at hTe
      walk_at "go"
      refine ⟨_, _, rfl, .inl ⟨SqL.of hzs, fun l hl' => ?_⟩⟩
      exact q _ _ T (sm.trans (same_upd hl')) ((hz.mono fun x a h => RowV.kt h (Kt.of (same_upd hl'))).sq hTl.symm upd_same) (by omega) hTz hTe
theorem ok_Form___repr__ {f : Addr} {fd : FuncData} (F : FunD K "__repr__" "Form.__repr__" (defArgs s_Form___repr__) (defBody s_Form___repr__) (defScope s_Form___repr__) [] [] f fd)
    {f_Form___str__ : Addr} {fd_Form___str__ : FuncData} (F_Form___str__ : FunD K "__str__" "Form.__str__" (defArgs s_Form___str__) (defBody s_Form___str__) (defScope s_Form___str__) [] [] f_Form___str__ fd_Form___str__) (SC_Form : StrC K (He.ga K "Form") f_Form___str__) (b_Form___str__ : Binds K fd_Form___str__ ["self"] []) (G_Form___str__ : FnOk P w K mg base CX0 4 f_Form___str__ fd_Form___str__ ["self"] (sp_Form___str__ K)) (m_str : mg "str" = none) :
    FnOk P w K mg base CX0 7 f fd ["self"] (sp_Form___repr__ K) := by
  refine F.ok sc_Form___repr__ (fun vs H Q E h => ?_) (fun cdv A outer s H vs Q E hr h => ?_)
  · obtain ⟨g, x, tv, t, rfl, hf, ht, hs, hl, hgl, q⟩ := h
    rfl
  · obtain ⟨g, x, tv, t, rfl, hf, ht, hs, hl, hgl, q⟩ := h
    refine ⟨_, PSs.nox (pss_one (ps_ret (pe_joined (.cons pe_str (.cons (pe_fmt (pe_callTy (call_strO SC_Form G_Form___str__ b_Form___str__ pass0 hr) (by rfl) m_str (by decide +kernel) (pa_cons (pv 0) pa_nil))) (.cons pe_str .nil)))))), ?_⟩
    have zl : (1500000 : Nat) ≤ sizeLine := by decide
    have l0 : Str.empty.length = 0 := rfl
    have l7 : (Str.ofString "Form(").length = 5 := by decide
    have l1 : (Str.ofString ")").length = 1 := by decide
    have lf := formT_ok hs hl hgl
    obtain ⟨p, dx, rfl, hp⟩ := id hf
    walk_at "go"
    refine ⟨_, rfl, by rw [Str.length_append]; omega, ?_⟩
    walk_at "go"
    refine w_strO hp ⟨g, _, tv, t, rfl, hf, ht, hs, hl, hgl, fun H1 s1 => ⟨_, rfl, ?_⟩⟩
    refine .inl ⟨_, rfl, by omega, _, rfl, by rw [Str.length_append, Str.length_append]; omega, ?_⟩
    walk_at "go"
    refine ⟨_, rfl, by rw [Str.length_append, Str.length_append, Str.length_append]; omega, ?_⟩
    walk_at "go"
    have := q _ s1
    rw [Str.empty_append]
    exact this
theorem ok__law_changed {f : Addr} {fd : FuncData} (F : FnP K "_law_changed" s__law_changed f fd)
    {f__law_take : Addr} {fd__law_take : FuncData} (F__law_take : FnP K "_law_take" s__law_take f__law_take fd__law_take) (b__law_take : Binds K fd__law_take ["_law_bag_here", "_law_many"] []) (g__law_take : mg "_law_take" = some (.ref f__law_take)) (G__law_take : FnOk P w K mg base CX0 1 f__law_take fd__law_take ["_law_bag_here", "_law_many"] (sp__law_take K))
    {f__law_product : Addr} {fd__law_product : FuncData} (F__law_product : FnP K "_law_product" s__law_product f__law_product fd__law_product) (b__law_product : Binds K fd__law_product ["_law_g", "_law_one", "_law_other"] []) (g__law_product : mg "_law_product" = some (.ref f__law_product)) (G__law_product : FnOk P w K mg base CX0 6 f__law_product fd__law_product ["_law_g", "_law_one", "_law_other"] (sp__law_product K))
    {f__law_turned : Addr} {fd__law_turned : FuncData} (F__law_turned : FnP K "_law_turned" s__law_turned f__law_turned fd__law_turned) (b__law_turned : Binds K fd__law_turned ["_law_table"] []) (g__law_turned : mg "_law_turned" = some (.ref f__law_turned)) (G__law_turned : FnOk P w K mg base CX0 1 f__law_turned fd__law_turned ["_law_table"] (sp__law_turned K))
    {f__law_minus : Addr} {fd__law_minus : FuncData} (F__law_minus : FnP K "_law_minus" s__law_minus f__law_minus fd__law_minus) (b__law_minus : Binds K fd__law_minus ["_law_g", "_law_x"] []) (g__law_minus : mg "_law_minus" = some (.ref f__law_minus)) (G__law_minus : FnOk P w K mg base CX0 3 f__law_minus fd__law_minus ["_law_g", "_law_x"] (sp__law_minus K))
    {f__law_low : Addr} {fd__law_low : FuncData} (F__law_low : FnP K "_law_low" s__law_low f__law_low fd__law_low) (b__law_low : Binds K fd__law_low ["_law_g", "_law_up", "_law_down"] []) (g__law_low : mg "_law_low" = some (.ref f__law_low)) (G__law_low : FnOk P w K mg base CX0 2 f__law_low fd__law_low ["_law_g", "_law_up", "_law_down"] (sp__law_low K))
    {f__law_ones : Addr} {fd__law_ones : FuncData} (F__law_ones : FnP K "_law_ones" s__law_ones f__law_ones fd__law_ones) (b__law_ones : Binds K fd__law_ones ["_law_many"] []) (g__law_ones : mg "_law_ones" = some (.ref f__law_ones)) (G__law_ones : FnOk P w K mg base CX0 1 f__law_ones fd__law_ones ["_law_many"] (sp__law_ones K)) (m_len : mg "len" = none) (m_range : mg "range" = none) (m_tuple : mg "tuple" = none) (m_list : mg "list" = none) :
    FnOk P w K mg base CX0 7 f fd ["_law_bag_here", "_law_g", "_law_table"] (sp__law_changed K) := by
  refine F.ok sc__law_changed (fun vs H Q E h => ?_) (fun cdv A outer s H vs Q E hr h => ?_)
  · obtain ⟨b, g, x, t, m, F', R, W, rfl, hgr, hb, hx, hf, hm1, hm, q⟩ := h
    rfl
  · obtain ⟨b, g, x, t, m, F', R, W, rfl, hgr, hb, hx, hf, hm1, hm, q⟩ := h
    refine ⟨_, PSs.nox (pss_cons (ps_set (i := 3) sc__law_changed.nd rfl (.inl rfl) (pe_callB call_len_seq (by rfl) m_len (by decide +kernel) (pa_cons (pv 2) pa_nil)))
        (pss_cons (ps_for PassesOwn.never rfl (pi_range1 (by rfl) m_range (pa_cons (pe_ifExp (pt_cmpR op_gt (pv 3) pe_int (nomark _)) (pe_call G__law_take (hr.mono (by decide)) (by rfl) g__law_take F__law_take.kp b__law_take .nil pass0 (pa_cons (pv 0) (pa_cons pe_int pa_nil))) pe_int) pa_nil)) (pg_name (i := 4) sc__law_changed.nd rfl (.inl rfl)) (pss_cons (ps_set (i := 5) sc__law_changed.nd rfl (.inl rfl) (pe_call G__law_take (hr.mono (by decide)) (by rfl) g__law_take F__law_take.kp b__law_take .nil pass0 (pa_cons (pv 0) (pa_cons (pv 3) pa_nil))))
        (pss_cons (ps_set (i := 6) sc__law_changed.nd rfl (.inl rfl) (pe_op op_modN (pe_op op_add (pe_op op_add (pv 5) pe_int) (pe_call G__law_take (hr.mono (by decide)) (by rfl) g__law_take F__law_take.kp b__law_take .nil pass0 (pa_cons (pv 0) (pa_cons (pe_op op_sub (pv 3) pe_int) pa_nil)))) (pv 3)))
        (pss_cons (ps_set (i := 7) sc__law_changed.nd rfl (.inl rfl) (pe_ix ix_list (pe_lst (pa_cons (pe_tup (pa_cons pe_int (pa_cons pe_int pa_nil))) (pa_cons (pe_call G__law_minus (hr.mono (by decide)) (by rfl) g__law_minus F__law_minus.kp b__law_minus .nil pass0 (pa_cons (pv 1) (pa_cons (pe_tup (pa_cons pe_int (pa_cons pe_int pa_nil))) pa_nil))) (pa_cons (pe_call G__law_low (hr.mono (by decide)) (by rfl) g__law_low F__law_low.kp b__law_low .nil pass0 (pa_cons (pv 1) (pa_cons pe_int (pa_cons pe_int pa_nil)))) pa_nil)))) (pe_call G__law_take (hr.mono (by decide)) (by rfl) g__law_take F__law_take.kp b__law_take .nil pass0 (pa_cons (pv 0) (pa_cons pe_int pa_nil))) (fun _ _ => rfl)))
        (pss_cons (ps_setLc (i := 8) (own := [("_law_row", 10)]) (g := gName 10) (tt := tYes) (by rfl) sc__law_changed.nd rfl rfl (sw_true rfl rfl rfl (by decide +kernel)) (pi_tup (pe_call G__law_ones (hr.mono (by decide)) (by rfl) g__law_ones F__law_ones.kp b__law_ones .nil pass0 (pa_cons (pv 3) pa_nil))) (blkOk_by (own := [("_law_row", 10)]) (N := ["_law_bag_here", "_law_g", "_law_table", "_law_many", "_law_turn", "_law_i", "_law_j", "_law_x", "_law_letters_here", "_law_step", "_law_row"]) (sc := defScope s__law_changed) (by decide +kernel)) (fun _ _ _ _ _ => (pg_name (i := 10) sc__law_changed.nd rfl (.inl rfl))) (fun _ _ _ _ _ => pts_nil) (fun _ _ _ _ _ => (pe_callTy (r := fun xs H Q => ∃ p ys, xs = [V.ref p] ∧ (SqL K H p ys ∨ SqT K H p ys) ∧ ∀ l : Addr, H l = none → Q (V.ref l) (upd H l (HO.lst ys))) call_list_of (by rfl) m_list (by decide +kernel) (pa_cons (pv 10) pa_nil))))
        (pss_cons (ps_asg (pv 7) (pg_sub (pe_ix ix_list (pv 8) (pv 5) (fun _ _ => rfl)) (pv 6) set_list))
        (pss_cons (ps_set (i := 9) sc__law_changed.nd rfl (.inl rfl) (pe_callTy call_tuple_of (by rfl) m_tuple (by decide +kernel) (pa_cons (pe_lc (own := [("_law_row", 10)]) (g := gName 10) (tt := tYes) (by rfl) sc__law_changed.nd (pi_list (pv 8)) (blkOk_by (own := [("_law_row", 10)]) (N := ["_law_bag_here", "_law_g", "_law_table", "_law_many", "_law_turn", "_law_i", "_law_j", "_law_x", "_law_letters_here", "_law_step", "_law_row"]) (sc := defScope s__law_changed) (by decide +kernel)) (fun _ _ _ _ _ => (pg_name (i := 10) sc__law_changed.nd rfl (.inl rfl))) (fun _ _ _ _ _ => pts_nil) (fun _ _ _ _ _ => (pe_callTy (r := rTupOf K) call_tupOf (by rfl) m_tuple (by decide +kernel) (pa_cons (pv 10) pa_nil)))) pa_nil)))
        (pss_one (ps_set (i := 2) sc__law_changed.nd rfl (.inl rfl) (pe_call G__law_product hr (by rfl) g__law_product F__law_product.kp b__law_product .nil pass0 (pa_cons (pv 1) (pa_cons (pe_call G__law_product hr (by rfl) g__law_product F__law_product.kp b__law_product .nil pass0 (pa_cons (pv 1) (pa_cons (pv 9) (pa_cons (pv 2) pa_nil)))) (pa_cons (pe_call G__law_turned (hr.mono (by decide)) (by rfl) g__law_turned F__law_turned.kp b__law_turned .nil pass0 (pa_cons (pv 9) pa_nil)) pa_nil)))))))))))))
        (pss_one (ps_ret (pv 2))))), ?_⟩
    have hg := hgr.two
    have ⟨hg0, hg13⟩ := hgr.bd
    obtain ⟨p, xs, rfl, hp, hlx, hxs⟩ := hx
    have htl := hf.len
    have htx : xs.length = m := by omega
    have hbp : Kt H H := fun _ _ h => h
    walk_at "go"
    refine ⟨p, xs, rfl, .inr (SqT.of hp), ?_⟩
    walk_at "go"
    have hx0 : TabV H (.ref p) t := ⟨p, xs, rfl, hp, hlx, hxs⟩
    have main : ∀ (n : Nat) (H1 : Hp), n ≤ 4 → (n = 0 ∨ 2 ≤ m) → Mv b H H1 → Bag H1 b → TabV H1 (.ref p) t → ∀ (D' : Ends) (q' : ∀ (H' : Hp) (v : V) (T : List (List (Int × Int))) (y4 y5 y6 y7 y8 y9 y10 : Option V), TabV H' v T → FrmT W 2520 16128000000000 m T → Mv b H H' → Bag H' b → D'.nx [some (.ref b), some (.int g), some v, some (.int (m : Int)), y4, y5, y6, y7, y8, y9, y10] H'), True := fun _ _ _ _ _ _ _ _ _ => trivial
    clear main
    refine w_ite (fun hc => ?_) (fun hc => ?_)
    · walk_at "go"
      refine ⟨b, 5, rfl, by decide, by decide, hb, fun H1 dn h10 h11 m1 hb1 => ?_⟩
      walk_at "go"
      refine ⟨by omega, by omega, ?_⟩
      refine for_range (fun i σ H' => ∃ (tv : V) (T : List (List (Int × Int))), (∃ y4 y5 y6 y7 y8 y9 y10, σ = [some (.ref b), some (.int g), some tv, some (.int (xs.length : Int)), y4, y5, y6, y7, y8, y9, y10]) ∧ Mv b H H' ∧ Bag H' b ∧ TabV H' tv T ∧ FrmT W 2520 (161280 * 100 ^ i) m T) ⟨.ref p, t, ⟨_, _, _, _, _, _, _, rfl⟩, m1, hb1, TabV.kt hx0 (m1.kt hb), hf⟩ (fun i σ H' hi hP => ?_) (fun σ H' hP => ?_)
      · obtain ⟨tv, T, ⟨y4, y5, y6, y7, y8, y9, y10, rfl⟩, mv, hbi, hT, hfT⟩ := hP
        have hi4 : i < 4 := by omega
        have hMi : 161280 * 100 ^ i ≤ 161280000000 := by
          have : 100 ^ i ≤ 100 ^ 3 := Nat.pow_le_pow_right (by decide) (by omega)
          omega
        walk_at "go"
        refine ⟨b, xs.length, rfl, by omega, by omega, hbi, fun H2 di h20 h21 m2 hb2 => ?_⟩
        walk_at "go"
        refine ⟨b, (xs.length : Int) - 1, rfl, by omega, by omega, hb2, fun H3 dj h30 h31 m3 hb3 => ?_⟩
        walk_at "go"
        refine w_I (by omega) ?_
        walk_at "go"
        obtain ⟨ni, eni⟩ : ∃ ni : Nat, di = (ni : Int) := ⟨di.toNat, by omega⟩
        have hj0 : 0 ≤ (di + 1 + dj).fmod (xs.length : Int) ∧ (di + 1 + dj).fmod (xs.length : Int) < (xs.length : Int) ∧ (di + 1 + dj).fmod (xs.length : Int) ≠ di := by
          rw [fmod_pos _ (by omega)]
          refine ⟨Int.emod_nonneg _ (by omega), Int.emod_lt_of_pos _ (by omega), fun z => ?_⟩
          by_cases hlt : di + 1 + dj < (xs.length : Int)
          · rw [Int.emod_eq_of_lt (by omega) hlt] at z
            omega
          · have e : (di + 1 + dj) % (xs.length : Int) = di + 1 + dj - (xs.length : Int) := by
              rw [← Int.sub_emod_right, Int.emod_eq_of_lt (by omega) (by omega)]
            omega
        generalize (di + 1 + dj).fmod (xs.length : Int) = nj' at hj0 ⊢
        obtain ⟨nj, enj⟩ : ∃ nj : Nat, nj' = (nj : Int) := ⟨nj'.toNat, by omega⟩
        subst eni enj
        have hni : ni < m := by omega
        have hnj : nj < m := by omega
        have hij : ni ≠ nj := by omega
        have m03 := mv.trans (m2.trans m3)
        have kt3 : Kt H' H3 := (m2.kt hbi).trans (m3.kt hb2)
        have hT3 := TabV.kt hT kt3
        refine w_new (by simp) fun o4 H4 ho4 s4 h4 => ?_
        walk_at "go"
        refine w_new (by simp) fun o5 H5 ho5 s5 h5 => ?_
        refine ⟨g, .ref o5, (1, 1), rfl, hg0, hg13, ⟨o5, rfl, h5⟩, by show (1 : Int).natAbs < 2 ^ 8000; exact Nat.lt_of_lt_of_le (show 1 < 2 ^ 1 by decide) (Nat.pow_le_pow_right (by decide) (by decide)), by decide, fun p6 H6 hp6 s6 h6 => ?_⟩
        walk_at "go"
        refine ⟨g, 2, 1, rfl, hg0, hg13, by decide, by exact Nat.lt_of_lt_of_le (show (1 : Int).natAbs < 2 ^ 1 by decide) (Nat.pow_le_pow_right (by decide) (by decide)), fun p7 H7 hp7 s7 h7 => ?_⟩
        walk_at "go"
        refine w_new (by simp) fun p8 H8 hp8 s8 h8 => ?_
        have s38 := s4.trans (s5.trans (s6.trans (s7.trans s8)))
        walk_at "go"
        refine ⟨b, 3, rfl, by decide, by decide, hb3.same s38, fun H9 d9 h90 h91 m9 hb9 => ?_⟩
        have nb8 : p8 ≠ b := bag_ne (hb3.same (s4.trans (s5.trans (s6.trans s7)))) hp8
        obtain ⟨xv, exv, hxv⟩ := pick3 (x := V.ref o4) (y := V.ref p6) (z := V.ref p7) h90 h91
        refine w_ixL (m9 _ _ nb8 h8) exv ?_
        have kt89 : Kt H8 H9 := m9.kt (hb3.same s38)
        obtain ⟨xa, hxa, hxz, hxt⟩ : ∃ xa, NumV H9 xv xa ∧ TZ g 1 2 xa ∧ True := by
          rcases hxv with rfl | rfl | rfl
          · exact ⟨(1, 1), ⟨o4, rfl, kt89 _ _ (s8 _ _ (s7 _ _ (s6 _ _ (s5 _ _ h4))))⟩, (TZ.one hg).mono (by decide), trivial⟩
          · exact ⟨_, ⟨p6, rfl, kt89 _ _ (s8 _ _ (s7 _ _ h6))⟩, ((TZ.one hg).minus hg).mono (by decide), trivial⟩
          · exact ⟨_, ⟨p7, rfl, kt89 _ _ (s8 _ _ h7)⟩, tz_low1 hg 2 (by decide), trivial⟩
        have kt39 : Kt H3 H9 := (Kt.of s38).trans kt89
        have m09 := m03.trans ((Mv.same s38).trans m9)
        walk_at "go"
        refine ⟨m, by rw [htx]; rfl, by omega, fun v10 H10 s10 h10 => ?_⟩
        obtain ⟨p10, x10, rfl, hp10, hl10, ha10⟩ := sqv_acc h10
        have hol : (onesF m).length = m := by unfold onesF; rw [List.length_map, List.length_range]
        walk_at "go"
        refine ⟨p10, rfl, ⟨_, SqT.of hp10⟩, fun D hD => ?_⟩
        refine lc_tup (xs := x10) (fun j H' => Same H10 H' ∧ ∃ zs, H' D = some (.lst zs) ∧ zs.Nodup ∧ (∀ v ∈ zs, v ≠ .ref D) ∧ (∀ p, V.ref p ∈ zs → H10 p = none) ∧ Acc LRow H' zs (onesF m) j) ⟨Same.updD (Same.refl H10) hD, [], upd_same, List.nodup_nil, fun v hv => (by cases hv), fun v hv => (by cases hv), Acc.nil⟩ (fun j H' _ hP => SqT.of (hP.1 _ _ hp10)) (fun j y H11 hyj hP => ?_) (fun H11 hP => ?_)
        · obtain ⟨sm11, zs, hD11, hnd, hnD, hfz, hz11⟩ := hP
          have hj : j < (onesF m).length := by
            have := (List.getElem?_eq_some_iff.mp hyj).1
            omega
          have go1 : (onesF m)[j]? = some (onesF m)[j] := List.getElem?_eq_getElem hj
          obtain ⟨pw, ws, rfl, hpw, hwl, hwa⟩ := sqv_acc (RowV.kt (ha10.2 j y _ hyj go1) (Kt.of sm11))
          walk_at "go"
          refine ⟨rfl, ?_⟩
          walk_at "go"
          refine ⟨_, _, rfl, .inr (SqT.of hpw), fun L12 hL12 => ?_⟩
          have s12 := same_upd (o := HO.lst ws) hL12
          have h12 : (upd H11 L12 (.lst ws)) L12 = some (.lst ws) := upd_same
          generalize upd H11 L12 (.lst ws) = H12 at s12 h12 ⊢
          have hD12 := s12 _ _ hD11
          have nLD : V.ref L12 ≠ V.ref D := fun z => by
            cases z
            rw [hD11] at hL12
            cases hL12
          refine ⟨zs, hD12, small1000 (by rw [hz11.1]; omega), Same.updD (sm11.trans s12) hD, _, upd_same, ?_, fun v hv => ?_, fun p' hp' => ?_, ?_⟩
          · rw [List.nodup_append]
            refine ⟨hnd, List.nodup_cons.mpr ⟨fun z => (by cases z), List.nodup_nil⟩, fun v hv v' hv' e => ?_⟩
            rw [List.mem_singleton.mp hv'] at e
            subst e
            obtain ⟨a, ha⟩ := List.getElem?_of_mem hv
            have hal := (List.getElem?_eq_some_iff.mp ha).1
            rw [hz11.1] at hal
            obtain ⟨pz, xz, ez, hpz, _⟩ := hz11.2 a _ _ ha (List.getElem?_eq_getElem (show a < (onesF m).length by omega))
            cases ez
            rw [hpz] at hL12
            cases hL12
          · rcases List.mem_append.mp hv with h | h
            · exact hnD v h
            · rw [List.mem_singleton.mp h]
              exact nLD
          · rcases List.mem_append.mp hp' with h | h
            · exact hfz p' h
            · cases List.mem_singleton.mp h
              exact sm11.free hL12
          · have mono : ∀ v r, v ∈ zs → LRow H11 v r → LRow (upd H12 D (.lst (zs ++ [V.ref L12]))) v r := fun v r hv h => (h.sm s12).upd hD12 (hnD v hv)
            have hz12 : Acc LRow (upd H12 D (.lst (zs ++ [V.ref L12]))) zs (onesF m) j := ⟨hz11.1, fun a v r e1 e2 => mono v r (List.mem_of_getElem? e1) (hz11.2 a v r e1 e2)⟩
            refine hz12.snoc go1 (LRow.upd ⟨L12, ws, rfl, h12, ?_⟩ hD12 nLD)
            exact hwa.mono fun x a h => NumV.kt h (Kt.of s12)
        · obtain ⟨sm11, zs, hD11, hnd, hnD, hfz, hz11⟩ := hP
          have hxl10 : x10.length = m := by omega
          rw [hxl10] at hz11
          have hzl : zs.length = m := hz11.1
          have gz : zs[ni]? = some (zs[ni]'(by omega)) := List.getElem?_eq_getElem _
          obtain ⟨pi, xi, epi, hpi, hai⟩ := hz11.2 ni _ _ gz (ones_get hni)
          rw [epi] at gz
          have hxil : xi.length = m := by rw [hai.1, List.length_map, List.length_range]
          walk_at "go"
          refine w_ixL hD11 (atI_nat gz) ?_
          walk_at "go"
          refine w_setL hpi (by rw [hxil]; exact ixN_nat hnj) ?_
          have npD : pi ≠ D := fun e => hnD _ (List.mem_of_getElem? gz) (by rw [e])
          have hD12 : (upd H11 pi (.lst (xi.set nj xv))) D = some (.lst zs) := by rw [upd_ne (Ne.symm npD)]; exact hD11
          have k10 : Kt H9 H11 := Kt.of (s10.trans sm11)
          have hxa12 : NumV (upd H11 pi (.lst (xi.set nj xv))) xv xa := (hxa.kt k10).kt (Kt.updL hpi)
          have hfr10 := hfz pi (List.mem_of_getElem? gz)
          have s12 : Same H10 (upd H11 pi (.lst (xi.set nj xv))) := Same.updD sm11 hfr10
          have hacc12 : Acc LRow (upd H11 pi (.lst (xi.set nj xv))) zs ((onesF m).set ni (((List.range m).map fun c => ((if ni = c then 1 else 0 : Int), (1 : Int))).set nj xa)) m := by
            refine ⟨hzl, fun a v r e1 e2 => ?_⟩
            rw [List.getElem?_set] at e2
            by_cases ea : ni = a
            · subst ea
              rw [if_pos rfl, if_pos (by rw [hol]; exact hni)] at e2
              cases Option.some.inj e2
              cases Option.some.inj (gz.symm.trans e1)
              refine ⟨pi, xi.set nj xv, rfl, upd_same, ?_⟩
              refine ⟨by rw [List.length_set, List.length_set]; exact hai.1, fun c y d f1 f2 => ?_⟩
              rw [List.getElem?_set] at f1 f2
              by_cases ec : nj = c
              · rw [if_pos ec] at f1 f2
                split at f1
                · cases Option.some.inj f1
                  split at f2
                  · cases Option.some.inj f2
                    exact hxa12
                  · cases f2
                · cases f1
              · rw [if_neg ec] at f1 f2
                exact (hai.2 c y d f1 f2).kt (Kt.updL hpi)
            · rw [if_neg ea] at e2
              refine (hz11.2 a v r e1 e2).upd hpi fun e => ?_
              have h1 := (List.getElem?_eq_some_iff.mp e1)
              have h2 := (List.getElem?_eq_some_iff.mp gz)
              exact ea ((List.getElem_inj hnd).mp (h2.2.trans (e.symm.trans h1.2.symm)))
          generalize upd H11 pi (.lst (xi.set nj xv)) = H12 at hD12 hxa12 s12 hacc12 ⊢
          have hPl : ((onesF m).set ni (((List.range m).map fun c => ((if ni = c then 1 else 0 : Int), (1 : Int))).set nj xa)).length = m := by rw [List.length_set]; exact hol
          have hPz : ∀ r ∈ (onesF m).set ni (((List.range m).map fun c => ((if ni = c then 1 else 0 : Int), (1 : Int))).set nj xa), RZ g 1 2 m r := fun r hr => by
            have ones : ∀ r ∈ onesF m, RZ g 1 2 m r := fun r hr => ⟨(rz_ones hg r hr).1, fun a ha => ((rz_ones hg r hr).2 a ha).mono (by decide)⟩
            rcases List.mem_or_eq_of_mem_set hr with h | h
            · exact ones r h
            · subst h
              refine ⟨by rw [List.length_set, List.length_map, List.length_range], fun a ha => ?_⟩
              rcases List.mem_or_eq_of_mem_set ha with h | h
              · exact ((rz_onesrow hg (m := m) (k := ni)).2 a h).mono (by decide)
              · rw [h]
                exact hxz
          have hPe := er_step (V := W) hni hnj hij xa
          generalize (onesF m).set ni (((List.range m).map fun c => ((if ni = c then 1 else 0 : Int), (1 : Int))).set nj xa) = P at hacc12 hPl hPz hPe
          walk_at "go"
          refine ⟨D, rfl, ⟨_, SqL.of hD12⟩, fun D2 hD2 => ?_⟩
          refine lc_list (xs := zs) (fun j H' => Same H12 H' ∧ ∃ ws, H' D2 = some (.lst ws) ∧ Acc RowV H' ws P j) ⟨Same.updD (Same.refl H12) hD2, [], upd_same, Acc.nil⟩ (fun j H' _ hP => SqL.of (hP.1 _ _ hD12)) (fun j y H13 hyj hP => ?_) (fun H13 hP => ?_)
          · obtain ⟨sm13, ws, hD13, hw13⟩ := hP
            have hj : j < P.length := by
              have := (List.getElem?_eq_some_iff.mp hyj).1
              omega
            have gP : P[j]? = some P[j] := List.getElem?_eq_getElem hj
            obtain ⟨pw, vs, rfl, hpw, hva⟩ := (hacc12.2 j y _ hyj gP).sm sm13
            walk_at "go"
            refine ⟨rfl, ?_⟩
            walk_at "go"
            refine ⟨_, _, rfl, .inl ⟨SqL.of hpw, fun l14 hl14 => ?_⟩⟩
            have s14 := same_upd (o := HO.tup vs) hl14
            have hD14 := s14 _ _ hD13
            have kt : Kt H13 (upd (upd H13 l14 (.tup vs)) D2 (.lst (ws ++ [V.ref l14]))) := (Kt.of s14).trans (Kt.updL hD14)
            refine ⟨ws, hD14, small1000 (by rw [hw13.1]; omega), Same.updD (sm13.trans s14) hD2, _, upd_same, ?_⟩
            exact (hw13.mono fun x a h => RowV.kt h kt).snoc gP (RowV.kt (acc_sqv upd_same (hva.mono fun x a h => NumV.kt h (Kt.of s14))) (Kt.updL hD14))
          · obtain ⟨sm13, ws, hD13, hw13⟩ := hP
            rw [hzl] at hw13
            walk_at "go"
            refine ⟨_, _, rfl, .inl ⟨SqL.of hD13, fun l14 hl14 => ?_⟩⟩
            have s14 := same_upd (o := HO.tup ws) hl14
            have h14 : (upd H13 l14 (.tup ws)) l14 = some (.tup ws) := upd_same
            generalize upd H13 l14 (.tup ws) = H14 at s14 h14 ⊢
            have hPv : TabV H14 (.ref l14) P := (hw13.mono fun x a h => RowV.kt h (Kt.of s14)).sq hPl.symm h14
            have s914 := s10.trans (s12.trans (sm13.trans s14))
            have hT14 : TabV H14 tv T := TabV.kt hT3 (kt39.trans (Kt.of s914))
            have hdP : Fr.dC (P.map (er W)) (List.range m) ≠ 0 := by
              rw [hPe, det_elem hni hnj hij]
              exact W.ne
            have hmm : m * m ≤ 25 := Nat.mul_le_mul hm hm
            have hbig : m * (161280 * 100 ^ i * 2) ≤ 5 * (161280000000 * 2) := Nat.mul_le_mul hm (Nat.mul_le_mul_right _ hMi)
            have hbig2 : m * (2 * (m * (161280 * 100 ^ i * 2))) ≤ 5 * (2 * (5 * (161280000000 * 2))) := Nat.mul_le_mul hm (Nat.mul_le_mul_left _ hbig)
            walk_at "go"
            refine ⟨g, .ref l14, tv, P, T, m, m, 1, 2520, 2, 161280 * 100 ^ i, 100, F', R, W, rfl, hg, hPv, hT14, hPz, by omega, hfT.len, hm1, by omega, by omega, hfT.row, by decide, by decide, by decide, by decide, by omega, ?_, by decide, by decide, fun v15 H15 T1 s15 h15 hT1l hT1z hT1e => ?_⟩
            · have : (m + 1) * (161280 * 100 ^ i * 2) ≤ 6 * (161280000000 * 2) := Nat.mul_le_mul (by omega) (Nat.mul_le_mul_right _ hMi)
              omega
            have hPv15 := TabV.kt hPv (Kt.of s15)
            walk_at "go"
            refine ⟨.ref l14, P, m, rfl, hPv15, by omega, by omega, fun r hr => (hPz r hr).1, by omega, fun v16 H16 s16 h16 => ?_⟩
            walk_at "go"
            have hQz : ∀ r ∈ turnF m P, RZ g 1 2 m r := fun r hr => by
              unfold turnF at hr
              obtain ⟨c, hc, rfl⟩ := List.mem_map.mp hr
              refine ⟨by rw [List.length_map]; exact hPl, fun a ha => ?_⟩
              obtain ⟨row, hrow, rfl⟩ := List.mem_map.mp ha
              have hrz := hPz row hrow
              have hcl : c < row.length := by rw [hrz.1]; exact List.mem_range.mp hc
              rw [List.getD_eq_getElem?_getD, List.getElem?_eq_getElem hcl]
              exact hrz.2 _ (List.getElem_mem hcl)
            refine ⟨g, v15, v16, T1, turnF m P, m, m, 2520 * 1, 1, m * (161280 * 100 ^ i * 2), 2, 100, F', R, W, rfl, hg, TabV.kt h15 (Kt.of s16), h16, hT1z, by omega, by unfold turnF; rw [List.length_map, List.length_range], hm1, by omega, by omega, hQz, by decide, by decide, by decide, by omega, by decide, ?_, by decide, by decide, fun v17 H17 T2 s17 h17 hT2l hT2z hT2e => ?_⟩
            · have : (m + 1) * (2 * (m * (161280 * 100 ^ i * 2))) ≤ 6 * (2 * (5 * (161280000000 * 2))) := Nat.mul_le_mul (by omega) (Nat.mul_le_mul_left _ hbig)
              omega
            walk_at "go"
            have s917 := s914.trans (s15.trans (s16.trans s17))
            refine ⟨v17, T2, ⟨_, _, _, _, _, _, _, rfl⟩, m09.trans (Mv.same s917), hb9.same s917, h17, ?_⟩
            refine hfT.step hg hPl hdP (fun r hr => (hPz r hr).1) hT1e hT2e (by omega) fun r hr => ⟨(hT2z r hr).1, fun a ha => ?_⟩
            have tz := (hT2z r hr).2 a ha
            rw [show ((1 : Int) * (2520 * 1)) = 2520 by decide] at tz
            refine tz.mono ?_
            have e1 : m * (2 * (m * (161280 * 100 ^ i * 2))) = m * m * 4 * (161280 * 100 ^ i) := by
              generalize 161280 * 100 ^ i = X
              rw [Nat.mul_left_comm 2 m, ← Nat.mul_assoc m m, Nat.mul_comm X 2, ← Nat.mul_assoc 2 2, ← Nat.mul_assoc]
            rw [e1, Nat.pow_succ]
            have : m * m * 4 * (161280 * 100 ^ i) ≤ 100 * (161280 * 100 ^ i) := Nat.mul_le_mul_right _ (by omega)
            omega
      · obtain ⟨tv, T, ⟨y4, y5, y6, y7, y8, y9, y10, rfl⟩, mv, hbi, hT, hfT⟩ := hP
        walk_at "go"
        exact q _ _ T hT (frm_mono hfT (pow100 (by omega))) mv hbi
    · walk_at "go"
      refine ⟨by decide, by decide, ?_⟩
      refine for_range (fun i σ H' => H' = H ∧ ∃ y3 y4 y5 y6 y7 y8 y9 y10, σ = [some (.ref b), some (.int g), some (.ref p), y3, y4, y5, y6, y7, y8, y9, y10]) ⟨rfl, _, _, _, _, _, _, _, _, rfl⟩ (fun i σ H' hi hP => absurd hi (Nat.not_lt_zero _)) (fun σ H' hP => ?_)
      obtain ⟨rfl, y3, y4, y5, y6, y7, y8, y9, y10, rfl⟩ := hP
      walk_at "go"
      exact q _ _ t hx0 (frm_mono hf (by decide)) (Mv.refl b _) hb
theorem ok_form_or_none {f : Addr} {fd : FuncData} (F : FnP K "form_or_none" s_form_or_none f fd)
    {f_table_parts : Addr} {fd_table_parts : FuncData} (F_table_parts : FnP K "table_parts" s_table_parts f_table_parts fd_table_parts) (b_table_parts : Binds K fd_table_parts ["text"] []) (g_table_parts : mg "table_parts" = some (.ref f_table_parts)) (G_table_parts : FnOk P w K mg base CX0 4 f_table_parts fd_table_parts ["text"] (sp_table_parts K))
    {f_is_form_table : Addr} {fd_is_form_table : FuncData} (F_is_form_table : FnP K "is_form_table" s_is_form_table f_is_form_table fd_is_form_table) (b_is_form_table : Binds K fd_is_form_table ["ground", "thing"] []) (g_is_form_table : mg "is_form_table" = some (.ref f_is_form_table)) (G_is_form_table : FnOk P w K mg base CX0 5 f_is_form_table fd_is_form_table ["ground", "thing"] (sp_is_form_table K))
    {f_Form___init__ : Addr} {fd_Form___init__ : FuncData} (F_Form___init__ : FunD K "__init__" "Form.__init__" (defArgs s_Form___init__) (defBody s_Form___init__) (defScope s_Form___init__) [.int 0] [] f_Form___init__ fd_Form___init__) (M_Form : Mk K (He.ga K "Form") f_Form___init__) (gc_Form : mg "Form" = some (.ref (He.ga K "Form"))) (b_Form___init__ : Binds K fd_Form___init__ ["self", "table", "ground"] []) (G_Form___init__ : FnOk P w K mg base CX0 6 f_Form___init__ fd_Form___init__ ["self", "table", "ground"] (sp_Form___init__ K))
    {a_WHEELS : Addr} (mg_WHEELS : mg "WHEELS" = some (.ref a_WHEELS)) (gr_WHEELS : DicT K w a_WHEELS wheels) :
    FnOk P w K mg base CX0 8 f fd ["text"] (sp_form_or_none K) := by
  refine F.ok sc_form_or_none (fun vs H Q E h => ?_) (fun cdv A outer s H vs Q E hr h => ?_)
  · obtain ⟨g, t, m, D, M, a, F', R, W, rfl, hg, hf, hm1, hm, hmw, hD0, hD, hM, ha4, ha, q⟩ := h
    rfl
  · obtain ⟨g, t, m, D, M, a, F', R, W, rfl, hg, hf, hm1, hm, hmw, hD0, hD, hM, ha4, ha, q⟩ := h
    refine ⟨_, PSs.nox (pss_cons (ps_asg (pe_partition (pv 0) pe_str) (pg_tup rfl (pgs_cons (pg_name (i := 1) sc_form_or_none.nd rfl (.inl rfl)) (pgs_cons (pg_name (i := 2) sc_form_or_none.nd rfl (.inl rfl)) (pgs_cons (pg_name (i := 3) sc_form_or_none.nd rfl (.inl rfl)) pgs_nil)))))
        (pss_cons (ps_set (i := 4) sc_form_or_none.nd rfl (.inl rfl) (pe_cutE (pe_ifExp (pt_tru (pv 2) (fun _ => rfl)) (pe_kget gr_WHEELS (pe_glob (v := .ref a_WHEELS) (by rfl) mg_WHEELS rfl) (pv 3) ⟨by rfl, by rfl, by rfl, by rfl⟩) pe_int)))
        (pss_cons (ps_set (i := 5) sc_form_or_none.nd rfl (.inl rfl) (pe_call G_table_parts (hr.mono (by decide)) (by rfl) g_table_parts F_table_parts.kp b_table_parts .nil pass0 (pa_cons (pv 1) pa_nil)))
        (pss_cons (ps_if (PW.pt (pw_or (pt_cmpR op_isN (pv 4) pe_non (nomark _)) (pw_or1 (pt_not (pt_val (pe_call G_is_form_table (hr.mono (by decide)) (by rfl) g_is_form_table F_is_form_table.kp b_is_form_table .nil pass0 (pa_cons (pv 4) (pa_cons (pv 5) pa_nil)))))))) (pss_one (ps_ret pe_non)) pss_nil)
        (pss_one (ps_ret (pe_make M_Form G_Form___init__ hr (by rfl) gc_Form b_Form___init__ .nil pass0 (pa_cons (pv 5) (pa_cons (pv 4) pa_nil))))))))), ?_⟩
    have zl : (1000000 : Nat) ≤ sizeLine := by decide
    have hT : TxT g m t := ⟨hf.len, a + 1, by omega, fun r hr' => ⟨(hf.row r hr').1, (hf.row r hr').tn hg (by omega) hD0 (pw_lt hD (by omega)) (pw_lt hM (by omega))⟩⟩
    obtain ⟨hne, hgd⟩ := hT.good hm1
    have hfl := formT_len hT hm hg
    walk_at "go"
    refine ⟨⟨_, rfl⟩, ?_⟩
    walk_at "go"
    refine ⟨_, _, rfl, rfl, by decide, by omega, fun p hp => ?_⟩
    rw [formT_cut]
    obtain ⟨by_, wheel, eby⟩ : ∃ b w, (if g = 0 then (Str.empty, Str.empty) else (Str.ofString " by ", Str.ofString (toString g))) = (b, w) := ⟨_, _, rfl⟩
    rw [eby]
    have s1 := Same.upd (Same.refl H) (o := .tup [.str (tabT t), .str by_, .str wheel]) hp
    have hp1 : (upd H p (.tup [.str (tabT t), .str by_, .str wheel])) p = some (.tup [.str (tabT t), .str by_, .str wheel]) := upd_same
    dsimp only
    revert s1 hp1
    generalize upd H p (.tup [.str (tabT t), .str by_, .str wheel]) = H1
    intro s1 hp1
    walk_at "go"
    refine w_cutE (fun v J => Same H1 J ∧ v = .int g) ?_ (fun v3 H3 hM => ?_)
    · walk_at "go"
      by_cases h0 : g = 0
      · rw [if_pos h0] at eby
        obtain ⟨rfl, rfl⟩ := Prod.mk.inj eby
        refine ⟨false, ⟨by decide, rfl⟩, ?_⟩
        refine w_iteB (fun z => absurd z (by decide)) (fun _ => ?_)
        walk_at "go"
        exact ⟨Same.refl _, by rw [h0]⟩
      · rw [if_neg h0] at eby
        obtain ⟨rfl, rfl⟩ := Prod.mk.inj eby
        refine ⟨true, ⟨by decide, by decide⟩, ?_⟩
        refine w_iteB (fun _ => ?_) (fun z => absurd z (by decide))
        walk_at "go"
        refine ⟨rfl, ?_⟩
        walk_at "go"
        refine ⟨_, rfl, Same.refl _, ?_⟩
        exact wheels_at (hg.resolve_left h0)
    obtain ⟨s3, rfl⟩ := hM
    walk_at "go"
    refine ⟨tabT t, rfl, hT.len hm, SmW.tab hgd hne, fun v H4 s4 hv => ?_⟩
    rw [tabN_tab (fun r hr' => ⟨(hgd r hr').1, fun a ha => ((hgd r hr').2 a ha).1⟩) hne] at hv
    have hv := OpV.tab hv
    walk_at "go"
    refine ⟨rfl, _, rfl, ?_⟩
    refine w_iteB (fun z => by cases of_decide_eq_true z) (fun _ => ?_)
    walk_at "go"
    refine ⟨g, v, t, m, D, M, a, F', R, W, rfl, hg, hv, hf, hm1, hm, hmw, hD0, hD, hM, ha4, ha, fun H5 s5 => ?_⟩
    walk_at "go"
    refine w_iteB (fun z => absurd z (by decide)) (fun _ => ?_)
    walk_at "go"
    exact form_mk (W := W) hg (TabV.kt hv (Kt.of s5)) hf hm1 hm hmw hD0 hD hM ha4 ha fun f H6 s6 h6 => q _ _ _ ((s1.trans s3).trans (s4.trans (s5.trans s6))) h6 (TabV.kt hv (Kt.of (s5.trans s6)))
theorem ok__law_form {f : Addr} {fd : FuncData} (F : FnP K "_law_form" s__law_form f fd)
    {f__law_take : Addr} {fd__law_take : FuncData} (F__law_take : FnP K "_law_take" s__law_take f__law_take fd__law_take) (b__law_take : Binds K fd__law_take ["_law_bag_here", "_law_many"] []) (g__law_take : mg "_law_take" = some (.ref f__law_take)) (G__law_take : FnOk P w K mg base CX0 1 f__law_take fd__law_take ["_law_bag_here", "_law_many"] (sp__law_take K))
    {f__law_minus : Addr} {fd__law_minus : FuncData} (F__law_minus : FnP K "_law_minus" s__law_minus f__law_minus fd__law_minus) (b__law_minus : Binds K fd__law_minus ["_law_g", "_law_x"] []) (g__law_minus : mg "_law_minus" = some (.ref f__law_minus)) (G__law_minus : FnOk P w K mg base CX0 3 f__law_minus fd__law_minus ["_law_g", "_law_x"] (sp__law_minus K))
    {f__law_changed : Addr} {fd__law_changed : FuncData} (F__law_changed : FnP K "_law_changed" s__law_changed f__law_changed fd__law_changed) (b__law_changed : Binds K fd__law_changed ["_law_bag_here", "_law_g", "_law_table"] []) (g__law_changed : mg "_law_changed" = some (.ref f__law_changed)) (G__law_changed : FnOk P w K mg base CX0 7 f__law_changed fd__law_changed ["_law_bag_here", "_law_g", "_law_table"] (sp__law_changed K))
    {f__law_other_than_nought : Addr} {fd__law_other_than_nought : FuncData} (F__law_other_than_nought : FnP K "_law_other_than_nought" s__law_other_than_nought f__law_other_than_nought fd__law_other_than_nought) (b__law_other_than_nought : Binds K fd__law_other_than_nought ["_law_bag_here", "_law_g"] []) (g__law_other_than_nought : mg "_law_other_than_nought" = some (.ref f__law_other_than_nought)) (G__law_other_than_nought : FnOk P w K mg base CX0 4 f__law_other_than_nought fd__law_other_than_nought ["_law_bag_here", "_law_g"] (sp__law_other_than_nought K)) (m_tuple : mg "tuple" = none) (m_range : mg "range" = none) :
    FnOk P w K mg base CX0 8 f fd ["_law_bag_here", "_law_g", "_law_many"] (sp__law_form K) := by
  refine F.ok sc__law_form (fun vs H Q E h => ?_) (fun cdv A outer s H vs Q E hr h => ?_)
  · obtain ⟨b, g, m, F', R, W, rfl, hgr, hb, hm1, hm, q⟩ := h
    rfl
  · obtain ⟨b, g, m, F', R, W, rfl, hgr, hb, hm1, hm, q⟩ := h
    refine ⟨_, PSs.nox (pss_cons (ps_set (i := 3) sc__law_form.nd rfl (.inl rfl) (pe_call G__law_take (hr.mono (by decide)) (by rfl) g__law_take F__law_take.kp b__law_take .nil pass0 (pa_cons (pv 0) (pa_cons pe_int pa_nil))))
        (pss_cons (ps_set (i := 4) sc__law_form.nd rfl (.inr rfl) (pe_call G__law_minus (hr.mono (by decide)) (by rfl) g__law_minus F__law_minus.kp b__law_minus .nil pass0 (pa_cons (pv 1) (pa_cons (pe_tup (pa_cons pe_int (pa_cons pe_int pa_nil))) pa_nil))))
        (pss_cons (ps_set (i := 5) sc__law_form.nd rfl (.inr rfl) (pe_op op_rep (pe_lst (pa_cons (pe_tup (pa_cons pe_int (pa_cons pe_int pa_nil))) pa_nil)) (pv 2)))
        (pss_cons (ps_if (pt_cmpR op_eq (pv 3) pe_int (nomark _)) (pss_one (ps_set (i := 5) sc__law_form.nd rfl (.inr rfl) (pe_lc (own := [("_law_k", 7)]) (g := gName 7) (tt := tYes) (by rfl) sc__law_form.nd (pi_range1 (by rfl) m_range (pa_cons (pv 2) pa_nil)) (blkOk_by (own := [("_law_k", 7)]) (N := ["_law_bag_here", "_law_g", "_law_many", "_law_way", "_law_lack", "_law_row", "_law_table", "_law_k", "_law_i", "_law_j"]) (sc := defScope s__law_form) (by decide +kernel)) (fun _ _ _ _ _ => (pg_name (i := 7) sc__law_form.nd rfl (.inl rfl))) (fun _ _ _ _ _ => pts_nil) (fun _ _ _ _ _ => (pe_ix (r := rIxL K) ix_list (pe_lst (pa_cons (pe_tup (pa_cons pe_int (pa_cons pe_int pa_nil))) (pa_cons (pv 4) pa_nil))) (pe_op op_modN (pv 7) pe_int) (fun _ _ => rfl)))))) (pss_one (ps_if (pt_cmpR op_gt (pv 3) pe_int (nomark _)) (pss_one (ps_set (i := 5) sc__law_form.nd rfl (.inr rfl) (pe_lc (own := [("_law_k", 7)]) (g := gName 7) (tt := tYes) (by rfl) sc__law_form.nd (pi_range1 (by rfl) m_range (pa_cons (pv 2) pa_nil)) (blkOk_by (own := [("_law_k", 7)]) (N := ["_law_bag_here", "_law_g", "_law_many", "_law_way", "_law_lack", "_law_row", "_law_table", "_law_k", "_law_i", "_law_j"]) (sc := defScope s__law_form) (by decide +kernel)) (fun _ _ _ _ _ => (pg_name (i := 7) sc__law_form.nd rfl (.inl rfl))) (fun _ _ _ _ _ => pts_nil) (fun _ _ _ _ _ => (pe_call G__law_other_than_nought (hr.mono (by decide)) (by rfl) g__law_other_than_nought F__law_other_than_nought.kp b__law_other_than_nought .nil pass0 (pa_cons (pv 0) (pa_cons (pv 1) pa_nil))))))) pss_nil)))
        (pss_cons (ps_set (i := 6) sc__law_form.nd rfl (.inl rfl) (pe_callTy call_tuple_of (by rfl) m_tuple (by decide +kernel) (pa_cons (pe_lc (own := [("_law_i", 8)]) (g := gName 8) (tt := tYes) (by rfl) sc__law_form.nd (pi_range1 (by rfl) m_range (pa_cons (pv 2) pa_nil)) (blkOk_by (own := [("_law_i", 8)]) (N := ["_law_bag_here", "_law_g", "_law_many", "_law_way", "_law_lack", "_law_row", "_law_table", "_law_k", "_law_i", "_law_j"]) (sc := defScope s__law_form) (by decide +kernel)) (fun _ _ _ _ _ => (pg_name (i := 8) sc__law_form.nd rfl (.inr rfl))) (fun _ _ _ _ _ => pts_nil) (fun _ _ _ _ _ => (pe_callTy (r := rTupOf K) call_tupOf (by rfl) m_tuple (by decide +kernel) (pa_cons (pe_lc (own := [("_law_j", 9)]) (g := gName 9) (tt := tYes) (wi := iRng1 (tCons (tVar 2) tNil)) (by rfl) sc__law_form.nd (pi_range1 (by rfl) m_range (pa_cons (pv 2) pa_nil)) (blkOk_by (own := [("_law_j", 9)]) (N := ["_law_bag_here", "_law_g", "_law_many", "_law_way", "_law_lack", "_law_row", "_law_table", "_law_k", "_law_i", "_law_j"]) (sc := ({ kind := PySem.ScopeKind.function, names := [ (PySem.Str.ofString ".0", PySem.NameKind.local), (PySem.Str.ofString "_law_i", PySem.NameKind.cell), (PySem.Str.ofString "tuple", PySem.NameKind.globalImplicit), (PySem.Str.ofString "range", PySem.NameKind.globalImplicit), (PySem.Str.ofString "_law_many", PySem.NameKind.cell), (PySem.Str.ofString "_law_row", PySem.NameKind.cell)], isGenerator := false, isCoroutine := false, more := [] } : Scope)) (by decide +kernel)) (fun _ _ _ _ _ => (pg_name (i := 9) sc__law_form.nd rfl (.inl rfl))) (fun _ _ _ _ _ => pts_nil) (fun _ _ _ _ _ => (pe_ifExp (pt_cmpR op_eq (pv 8) (pv 9) (nomark _)) (pe_ix (r := rIxL K) ix_list (pv 5) (pv 8) (fun _ _ => rfl)) (pe_tup (pa_cons pe_int (pa_cons pe_int pa_nil)))))) pa_nil)))) pa_nil)))
        (pss_one (ps_ret (pe_ifExp (pt_cmpR op_eq (pv 3) pe_int (nomark _)) (pv 6) (pe_call G__law_changed hr (by rfl) g__law_changed F__law_changed.kp b__law_changed .nil pass0 (pa_cons (pv 0) (pa_cons (pv 1) (pa_cons (pv 6) pa_nil)))))))))))), ?_⟩
    have hg := hgr.two
    have ⟨hg0, hg13⟩ := hgr.bd
    walk_at "go"
    refine ⟨b, 4, rfl, by decide, by decide, hb, fun Ha wy ha0 ha1 ma hba => ?_⟩
    walk_at "go"
    refine w_new (by simp) fun o1 Hb ho1 sb hob => ?_
    refine ⟨g, .ref o1, (1, 1), rfl, hg0, hg13, ⟨o1, rfl, hob⟩, by show (1 : Int).natAbs < 2 ^ 8000; exact Nat.lt_of_lt_of_le (show 1 < 2 ^ 1 by decide) (Nat.pow_le_pow_right (by decide) (by decide)), by decide, fun p2 Hc hp2 sc hpc => ?_⟩
    walk_at "go"
    refine w_new (by simp) fun o3 Hd ho3 sd hod => ?_
    walk_at "go"
    refine w_new (by simp) fun o4 He ho4 se hoe => ?_
    walk_at "go"
    refine w_rep hoe (by omega) (by omega) (by simp) ?_
    refine w_newO fun L H1 hLn s5 hL => ?_
    rw [Int.toNat_natCast, rep_one] at hL
    have sa5 := sb.trans (sc.trans (sd.trans (se.trans s5)))
    have mvX := ma.trans (Mv.same sa5)
    have hbX := hba.same sa5
    have tlack : TN g 7 (minusF g (1, 1)) := (tn_minus hg (tn_one hg) (Nat.le_refl 4)).mono (by decide)
    have t1 : TN g 7 (1, 1) := (tn_one hg).mono (by decide)
    have h3' : H1 o3 = some (.tup [.int 1, .int 1]) := s5 _ _ (se _ _ hod)
    have h2' : H1 p2 = some (.tup [.int (minusF g (1, 1)).1, .int (minusF g (1, 1)).2]) := s5 _ _ (se _ _ (sd _ _ hpc))
    walk_at "go"
    refine w_ite (fun hc1 => ?_) (fun hc1 => ?_)
    · walk_at "go"
      refine ⟨by omega, by omega, fun D0 hD0 => ?_⟩
      refine lc_range (fun i H' => Same H1 H' ∧ ∃ (xs : List V) (d : List (Int × Int)), H' D0 = some (.lst xs) ∧ d.length = i ∧ Acc NumV H' xs d i ∧ ∀ a ∈ d, TZ g 2520 161280 a ∧ TN g 7 a ∧ a.1 ≠ 0) ⟨Same.updD (Same.refl H1) hD0, [], [], upd_same, rfl, Acc.nil, fun a ha => (by cases ha)⟩ (fun i H' hi hP => ?_) (fun H' hP => ?_)
      · obtain ⟨sm, xs, d, hD', hdl, hacc, hd⟩ := hP
        walk_at "go"
        refine ⟨rfl, ?_⟩
        walk_at "go"
        refine w_new (by simp) fun o6 H6 ho6 s6 h6 => ?_
        walk_at "go"
        refine w_new (by simp) fun o7 H7 ho7 s7 h7 => ?_
        walk_at "go"
        refine w_I (by decide) ?_
        have s67 := s6.trans s7
        obtain ⟨y, a, ey, hy, hya⟩ : ∃ y a, atI [V.ref o6, V.ref p2] ((0 + (i : Int)).fmod 2) = some y ∧ NumV H7 y a ∧ TZ g 2520 161280 a ∧ TN g 7 a ∧ a.1 ≠ 0 := by
          have hf : (0 + (i : Int)).fmod 2 = 0 ∨ (0 + (i : Int)).fmod 2 = 1 := by
            rw [fmod_pos _ (by decide)]
            omega
          rcases hf with e | e
          · rw [e]
            exact ⟨_, (1, 1), rfl, ⟨o6, rfl, s7 _ _ h6⟩, tz_oneW hg, t1, by decide⟩
          · rw [e]
            exact ⟨_, minusF g (1, 1), rfl, ⟨p2, rfl, s67 _ _ (sm _ _ h2')⟩, tz_lackW hg, tlack, lack_ne hg⟩
        refine w_ixL h7 ey ?_
        have h7D := s67 _ _ hD'
        have kt : Kt H' (upd H7 D0 (.lst (xs ++ [y]))) := (Kt.of s67).trans (Kt.updL h7D)
        refine ⟨xs, h7D, small1000 (by rw [hacc.1]; omega), Same.updD (sm.trans s67) hD0, _, d ++ [a], upd_same, by rw [List.length_append, hdl]; rfl, acc_app (hacc.mono fun x a h => NumV.kt h kt) hdl (hy.kt (Kt.updL h7D)), fun c hc => ?_⟩
        rcases List.mem_append.mp hc with h | h
        · exact hd c h
        · rw [List.mem_singleton.mp h]
          exact hya
      · obtain ⟨sm, xs, d, hL, hdl, hacc, hd⟩ := hP
        rw [Int.toNat_natCast] at hdl hacc
        have mvX := mvX.trans (Mv.same sm)
        have hbX := hbX.same sm
        have L := D0
        clear hD0
        revert sm hL hacc mvX hbX
        generalize H' = H1
        intro sm hL hacc mvX hbX
        have hxl : xs.length = m := hacc.1
        have hfrm := diag_frm hg W hdl hd
        walk_at "go"
        refine ⟨by omega, by omega, fun D hD => ?_⟩
        refine lc_range (fun i H' => Same H1 H' ∧ ∃ ys, H' D = some (.lst ys) ∧ Acc RowV H' ys (diagF d) i) ⟨Same.updD (Same.refl H1) hD, [], upd_same, Acc.nil⟩ (fun i H' hi hP => ?_) (fun H' hP => ?_)
        · obtain ⟨sm, ys, hD', hacc2⟩ := hP
          have hi' : i < m := by omega
          have hL' := sm _ _ hL
          have gx : xs[i]? = some (xs[i]'(by omega)) := List.getElem?_eq_getElem _
          have gd : d[i]? = some (d[i]'(by omega)) := List.getElem?_eq_getElem _
          have gdD : d.getD i (0, 1) = d[i]'(by omega) := by rw [List.getD_eq_getElem?_getD, gd]; rfl
          have hn := hacc.2 i _ _ gx gd
          walk_at "go"
          refine ⟨rfl, ?_⟩
          walk_at "go"
          refine ⟨by omega, by omega, fun D2 hD2 => ?_⟩
          refine lc_range (fun j H'' => Same H' H'' ∧ ∃ zs, H'' D2 = some (.lst zs) ∧ Acc NumV H'' zs ((List.range m).map fun j => if i = j then d.getD i (0, 1) else (0, 1)) j) ⟨Same.updD (Same.refl H') hD2, [], upd_same, Acc.nil⟩ (fun j H'' hj hP => ?_) (fun H'' hP => ?_)
          · obtain ⟨sm2, zs, hD2', hacc3⟩ := hP
            have hj' : j < m := by omega
            walk_at "go"
            refine ⟨rfl, ?_⟩
            walk_at "go"
            refine w_ite (fun hc => ?_) (fun hc => ?_)
            · walk_at "go"
              refine w_ixL (sm2 _ _ hL') (by rw [show (0 : Int) + (i : Int) = (i : Int) by omega]; exact atI_nat gx) ?_
              have kt : Kt H'' (upd H'' D2 (.lst (zs ++ [xs[i]'(by omega)]))) := Kt.updL hD2'
              refine ⟨zs, hD2', small1000 (by rw [hacc3.1]; omega), Same.updD sm2 hD2, _, upd_same, ?_⟩
              refine (hacc3.mono fun x a h => NumV.kt h kt).snoc (a := if i = j then d.getD i (0, 1) else (0, 1)) (by rw [List.getElem?_map, List.getElem?_range hj']; rfl) ?_
              rw [if_pos (show i = j by omega), gdD]
              exact (hn.kt (Kt.of (sm.trans sm2))).kt kt
            · walk_at "go"
              refine w_new (by simp) fun p3 H3 hp3 s3 h3 => ?_
              have h3D := s3 _ _ hD2'
              have kt : Kt H'' (upd H3 D2 (.lst (zs ++ [V.ref p3]))) := (Kt.of s3).trans (Kt.updL h3D)
              refine ⟨zs, h3D, small1000 (by rw [hacc3.1]; omega), Same.updD (sm2.trans s3) hD2, _, upd_same, ?_⟩
              refine (hacc3.mono fun x a h => NumV.kt h kt).snoc (a := if i = j then d.getD i (0, 1) else (0, 1)) (by rw [List.getElem?_map, List.getElem?_range hj']; rfl) ?_
              rw [if_neg (show ¬ i = j by omega)]
              exact ⟨p3, rfl, Kt.updL h3D _ _ h3⟩
          · obtain ⟨sm2, zs, hD2', hacc3⟩ := hP
            walk_at "go"
            refine ⟨_, _, rfl, .inl ⟨SqL.of hD2', fun l hl => ?_⟩⟩
            have s4 := same_upd (o := HO.tup zs) hl
            have h4D := s4 _ _ (sm2 _ _ hD')
            have kt : Kt H' (upd (upd H'' l (.tup zs)) D (.lst (ys ++ [V.ref l]))) := (Kt.of (sm2.trans s4)).trans (Kt.updL h4D)
            refine ⟨ys, h4D, small1000 (by rw [hacc2.1]; omega), Same.updD (sm.trans (sm2.trans s4)) hD, _, upd_same, ?_⟩
            refine (hacc2.mono fun x a h => RowV.kt h kt).snoc (a := (List.range m).map fun j => if i = j then d.getD i (0, 1) else (0, 1)) (by unfold diagF; rw [hdl, List.getElem?_map, List.getElem?_range hi']; rfl) ?_
            refine RowV.kt ((hacc3.mono fun x a h => NumV.kt h (Kt.of s4)).sq (p := l) ?_ upd_same) (Kt.updL h4D)
            rw [List.length_map, List.length_range]
            omega
        · obtain ⟨sm, ys, hD', hacc2⟩ := hP
          walk_at "go"
          refine ⟨_, _, rfl, .inl ⟨SqL.of hD', fun l hl => ?_⟩⟩
          have s4 := same_upd (o := HO.tup ys) hl
          have h4 : (upd H' l (.tup ys)) l = some (.tup ys) := upd_same
          generalize upd H' l (.tup ys) = H4 at s4 h4 ⊢
          have hTv : TabV H4 (.ref l) (diagF d) := (hacc2.mono fun x a h => RowV.kt h (Kt.of s4)).sq (by unfold diagF; rw [List.length_map, List.length_range, hdl]; omega) h4
          have s14 := sm.trans s4
          walk_at "go"
          refine w_ite (fun hc => ?_) (fun hc => ?_)
          · walk_at "go"
            exact q _ _ _ hTv (frm_mono hfrm (by decide)) (mvX.trans (Mv.same s14)) (hbX.same s14)
          · walk_at "go"
            refine ⟨b, g, .ref l, diagF d, m, F', R, W, rfl, hgr, hbX.same s14, hTv, hfrm, hm1, hm, fun H5 v5 T5 h5 hf5 m5 hb5 => ?_⟩
            exact q _ _ T5 h5 hf5 (mvX.trans ((Mv.same s14).trans m5)) hb5
    · walk_at "go"
      refine w_ite (fun hc2 => ?_) (fun hc2 => ?_)
      · walk_at "go"
        refine ⟨by omega, by omega, fun D0 hD0 => ?_⟩
        have nD := bag_ne hbX hD0
        have hD00 : H D0 = none := by
          cases e : H D0 with
          | none => rfl
          | some o => exact absurd (mvX _ _ nD e) (by rw [hD0]; exact fun z => (by cases z))
        refine lc_range (fun i H' => Mv b H H' ∧ Bag H' b ∧ ∃ (xs : List V) (d : List (Int × Int)), H' D0 = some (.lst xs) ∧ d.length = i ∧ Acc NumV H' xs d i ∧ ∀ a ∈ d, TZ g 2520 161280 a ∧ TN g 7 a ∧ a.1 ≠ 0) ⟨mvX.updD hD00, hbX.upd nD, [], [], upd_same, rfl, Acc.nil, fun a ha => (by cases ha)⟩ (fun i H' hi hP => ?_) (fun H' hP => ?_)
        · obtain ⟨mv, hbi, xs, d, hD', hdl, hacc, hd⟩ := hP
          walk_at "go"
          refine ⟨rfl, ?_⟩
          walk_at "go"
          refine ⟨b, g, rfl, hgr, hbi, fun H6 y a hy hng hta hne m6 hb6 => ?_⟩
          have h6D := m6 _ _ nD hD'
          have kt : Kt H' (upd H6 D0 (.lst (xs ++ [y]))) := (m6.kt hbi).trans (Kt.updL h6D)
          refine ⟨xs, h6D, small1000 (by rw [hacc.1]; omega), (mv.trans m6).updD hD00, hb6.upd nD, _, d ++ [a], upd_same, by rw [List.length_append, hdl]; rfl, acc_app (hacc.mono fun x a h => NumV.kt h kt) hdl (hy.kt (Kt.updL h6D)), fun c hc => ?_⟩
          rcases List.mem_append.mp hc with h | h
          · exact hd c h
          · rw [List.mem_singleton.mp h]
            exact ⟨ng_tz hg hng hta, hta, hne⟩
        · obtain ⟨mvX, hbX, xs, d, hL, hdl, hacc, hd⟩ := hP
          rw [Int.toNat_natCast] at hdl hacc
          clear hD0
          revert hL hacc mvX hbX
          generalize H' = H1
          intro mvX hbX hL hacc
          have hxl : xs.length = m := hacc.1
          have hfrm := diag_frm hg W hdl hd
          walk_at "go"
          refine ⟨by omega, by omega, fun D hD => ?_⟩
          refine lc_range (fun i H' => Same H1 H' ∧ ∃ ys, H' D = some (.lst ys) ∧ Acc RowV H' ys (diagF d) i) ⟨Same.updD (Same.refl H1) hD, [], upd_same, Acc.nil⟩ (fun i H' hi hP => ?_) (fun H' hP => ?_)
          · obtain ⟨sm, ys, hD', hacc2⟩ := hP
            have hi' : i < m := by omega
            have hL' := sm _ _ hL
            have gx : xs[i]? = some (xs[i]'(by omega)) := List.getElem?_eq_getElem _
            have gd : d[i]? = some (d[i]'(by omega)) := List.getElem?_eq_getElem _
            have gdD : d.getD i (0, 1) = d[i]'(by omega) := by rw [List.getD_eq_getElem?_getD, gd]; rfl
            have hn := hacc.2 i _ _ gx gd
            walk_at "go"
            refine ⟨rfl, ?_⟩
            walk_at "go"
            refine ⟨by omega, by omega, fun D2 hD2 => ?_⟩
            refine lc_range (fun j H'' => Same H' H'' ∧ ∃ zs, H'' D2 = some (.lst zs) ∧ Acc NumV H'' zs ((List.range m).map fun j => if i = j then d.getD i (0, 1) else (0, 1)) j) ⟨Same.updD (Same.refl H') hD2, [], upd_same, Acc.nil⟩ (fun j H'' hj hP => ?_) (fun H'' hP => ?_)
            · obtain ⟨sm2, zs, hD2', hacc3⟩ := hP
              have hj' : j < m := by omega
              walk_at "go"
              refine ⟨rfl, ?_⟩
              walk_at "go"
              refine w_ite (fun hc => ?_) (fun hc => ?_)
              · walk_at "go"
                refine w_ixL (sm2 _ _ hL') (by rw [show (0 : Int) + (i : Int) = (i : Int) by omega]; exact atI_nat gx) ?_
                have kt : Kt H'' (upd H'' D2 (.lst (zs ++ [xs[i]'(by omega)]))) := Kt.updL hD2'
                refine ⟨zs, hD2', small1000 (by rw [hacc3.1]; omega), Same.updD sm2 hD2, _, upd_same, ?_⟩
                refine (hacc3.mono fun x a h => NumV.kt h kt).snoc (a := if i = j then d.getD i (0, 1) else (0, 1)) (by rw [List.getElem?_map, List.getElem?_range hj']; rfl) ?_
                rw [if_pos (show i = j by omega), gdD]
                exact (hn.kt (Kt.of (sm.trans sm2))).kt kt
              · walk_at "go"
                refine w_new (by simp) fun p3 H3 hp3 s3 h3 => ?_
                have h3D := s3 _ _ hD2'
                have kt : Kt H'' (upd H3 D2 (.lst (zs ++ [V.ref p3]))) := (Kt.of s3).trans (Kt.updL h3D)
                refine ⟨zs, h3D, small1000 (by rw [hacc3.1]; omega), Same.updD (sm2.trans s3) hD2, _, upd_same, ?_⟩
                refine (hacc3.mono fun x a h => NumV.kt h kt).snoc (a := if i = j then d.getD i (0, 1) else (0, 1)) (by rw [List.getElem?_map, List.getElem?_range hj']; rfl) ?_
                rw [if_neg (show ¬ i = j by omega)]
                exact ⟨p3, rfl, Kt.updL h3D _ _ h3⟩
            · obtain ⟨sm2, zs, hD2', hacc3⟩ := hP
              walk_at "go"
              refine ⟨_, _, rfl, .inl ⟨SqL.of hD2', fun l hl => ?_⟩⟩
              have s4 := same_upd (o := HO.tup zs) hl
              have h4D := s4 _ _ (sm2 _ _ hD')
              have kt : Kt H' (upd (upd H'' l (.tup zs)) D (.lst (ys ++ [V.ref l]))) := (Kt.of (sm2.trans s4)).trans (Kt.updL h4D)
              refine ⟨ys, h4D, small1000 (by rw [hacc2.1]; omega), Same.updD (sm.trans (sm2.trans s4)) hD, _, upd_same, ?_⟩
              refine (hacc2.mono fun x a h => RowV.kt h kt).snoc (a := (List.range m).map fun j => if i = j then d.getD i (0, 1) else (0, 1)) (by unfold diagF; rw [hdl, List.getElem?_map, List.getElem?_range hi']; rfl) ?_
              refine RowV.kt ((hacc3.mono fun x a h => NumV.kt h (Kt.of s4)).sq (p := l) ?_ upd_same) (Kt.updL h4D)
              rw [List.length_map, List.length_range]
              omega
          · obtain ⟨sm, ys, hD', hacc2⟩ := hP
            walk_at "go"
            refine ⟨_, _, rfl, .inl ⟨SqL.of hD', fun l hl => ?_⟩⟩
            have s4 := same_upd (o := HO.tup ys) hl
            have h4 : (upd H' l (.tup ys)) l = some (.tup ys) := upd_same
            generalize upd H' l (.tup ys) = H4 at s4 h4 ⊢
            have hTv : TabV H4 (.ref l) (diagF d) := (hacc2.mono fun x a h => RowV.kt h (Kt.of s4)).sq (by unfold diagF; rw [List.length_map, List.length_range, hdl]; omega) h4
            have s14 := sm.trans s4
            walk_at "go"
            refine w_ite (fun hc => ?_) (fun hc => ?_)
            · walk_at "go"
              exact q _ _ _ hTv (frm_mono hfrm (by decide)) (mvX.trans (Mv.same s14)) (hbX.same s14)
            · walk_at "go"
              refine ⟨b, g, .ref l, diagF d, m, F', R, W, rfl, hgr, hbX.same s14, hTv, hfrm, hm1, hm, fun H5 v5 T5 h5 hf5 m5 hb5 => ?_⟩
              exact q _ _ T5 h5 hf5 (mvX.trans ((Mv.same s14).trans m5)) hb5
      · have hd : ∀ a ∈ List.replicate m ((1 : Int), (1 : Int)), TZ g 2520 161280 a ∧ TN g 7 a ∧ a.1 ≠ 0 := fun a ha => by
          rw [List.eq_of_mem_replicate ha]
          exact ⟨tz_oneW hg, t1, by decide⟩
        have hdl : (List.replicate m ((1 : Int), (1 : Int))).length = m := List.length_replicate
        have hacc : Acc NumV H1 (List.replicate m (V.ref o3)) (List.replicate m ((1 : Int), (1 : Int))) m := ⟨List.length_replicate, fun j x a e1 e2 => by
          rw [List.eq_of_mem_replicate (List.mem_of_getElem? e1), List.eq_of_mem_replicate (List.mem_of_getElem? e2)]
          exact ⟨o3, rfl, h3'⟩⟩
        generalize List.replicate m ((1 : Int), (1 : Int)) = d at hd hdl hacc
        generalize List.replicate m (V.ref o3) = xs at hL hacc
        have hxl : xs.length = m := hacc.1
        have hfrm := diag_frm hg W hdl hd
        walk_at "go"
        refine ⟨by omega, by omega, fun D hD => ?_⟩
        refine lc_range (fun i H' => Same H1 H' ∧ ∃ ys, H' D = some (.lst ys) ∧ Acc RowV H' ys (diagF d) i) ⟨Same.updD (Same.refl H1) hD, [], upd_same, Acc.nil⟩ (fun i H' hi hP => ?_) (fun H' hP => ?_)
        · obtain ⟨sm, ys, hD', hacc2⟩ := hP
          have hi' : i < m := by omega
          have hL' := sm _ _ hL
          have gx : xs[i]? = some (xs[i]'(by omega)) := List.getElem?_eq_getElem _
          have gd : d[i]? = some (d[i]'(by omega)) := List.getElem?_eq_getElem _
          have gdD : d.getD i (0, 1) = d[i]'(by omega) := by rw [List.getD_eq_getElem?_getD, gd]; rfl
          have hn := hacc.2 i _ _ gx gd
          walk_at "go"
          refine ⟨rfl, ?_⟩
          walk_at "go"
          refine ⟨by omega, by omega, fun D2 hD2 => ?_⟩
          refine lc_range (fun j H'' => Same H' H'' ∧ ∃ zs, H'' D2 = some (.lst zs) ∧ Acc NumV H'' zs ((List.range m).map fun j => if i = j then d.getD i (0, 1) else (0, 1)) j) ⟨Same.updD (Same.refl H') hD2, [], upd_same, Acc.nil⟩ (fun j H'' hj hP => ?_) (fun H'' hP => ?_)
          · obtain ⟨sm2, zs, hD2', hacc3⟩ := hP
            have hj' : j < m := by omega
            walk_at "go"
            refine ⟨rfl, ?_⟩
            walk_at "go"
            refine w_ite (fun hc => ?_) (fun hc => ?_)
            · walk_at "go"
              refine w_ixL (sm2 _ _ hL') (by rw [show (0 : Int) + (i : Int) = (i : Int) by omega]; exact atI_nat gx) ?_
              have kt : Kt H'' (upd H'' D2 (.lst (zs ++ [xs[i]'(by omega)]))) := Kt.updL hD2'
              refine ⟨zs, hD2', small1000 (by rw [hacc3.1]; omega), Same.updD sm2 hD2, _, upd_same, ?_⟩
              refine (hacc3.mono fun x a h => NumV.kt h kt).snoc (a := if i = j then d.getD i (0, 1) else (0, 1)) (by rw [List.getElem?_map, List.getElem?_range hj']; rfl) ?_
              rw [if_pos (show i = j by omega), gdD]
              exact (hn.kt (Kt.of (sm.trans sm2))).kt kt
            · walk_at "go"
              refine w_new (by simp) fun p3 H3 hp3 s3 h3 => ?_
              have h3D := s3 _ _ hD2'
              have kt : Kt H'' (upd H3 D2 (.lst (zs ++ [V.ref p3]))) := (Kt.of s3).trans (Kt.updL h3D)
              refine ⟨zs, h3D, small1000 (by rw [hacc3.1]; omega), Same.updD (sm2.trans s3) hD2, _, upd_same, ?_⟩
              refine (hacc3.mono fun x a h => NumV.kt h kt).snoc (a := if i = j then d.getD i (0, 1) else (0, 1)) (by rw [List.getElem?_map, List.getElem?_range hj']; rfl) ?_
              rw [if_neg (show ¬ i = j by omega)]
              exact ⟨p3, rfl, Kt.updL h3D _ _ h3⟩
          · obtain ⟨sm2, zs, hD2', hacc3⟩ := hP
            walk_at "go"
            refine ⟨_, _, rfl, .inl ⟨SqL.of hD2', fun l hl => ?_⟩⟩
            have s4 := same_upd (o := HO.tup zs) hl
            have h4D := s4 _ _ (sm2 _ _ hD')
            have kt : Kt H' (upd (upd H'' l (.tup zs)) D (.lst (ys ++ [V.ref l]))) := (Kt.of (sm2.trans s4)).trans (Kt.updL h4D)
            refine ⟨ys, h4D, small1000 (by rw [hacc2.1]; omega), Same.updD (sm.trans (sm2.trans s4)) hD, _, upd_same, ?_⟩
            refine (hacc2.mono fun x a h => RowV.kt h kt).snoc (a := (List.range m).map fun j => if i = j then d.getD i (0, 1) else (0, 1)) (by unfold diagF; rw [hdl, List.getElem?_map, List.getElem?_range hi']; rfl) ?_
            refine RowV.kt ((hacc3.mono fun x a h => NumV.kt h (Kt.of s4)).sq (p := l) ?_ upd_same) (Kt.updL h4D)
            rw [List.length_map, List.length_range]
            omega
        · obtain ⟨sm, ys, hD', hacc2⟩ := hP
          walk_at "go"
          refine ⟨_, _, rfl, .inl ⟨SqL.of hD', fun l hl => ?_⟩⟩
          have s4 := same_upd (o := HO.tup ys) hl
          have h4 : (upd H' l (.tup ys)) l = some (.tup ys) := upd_same
          generalize upd H' l (.tup ys) = H4 at s4 h4 ⊢
          have hTv : TabV H4 (.ref l) (diagF d) := (hacc2.mono fun x a h => RowV.kt h (Kt.of s4)).sq (by unfold diagF; rw [List.length_map, List.length_range, hdl]; omega) h4
          have s14 := sm.trans s4
          walk_at "go"
          refine w_ite (fun hc => ?_) (fun hc => ?_)
          · walk_at "go"
            exact q _ _ _ hTv (frm_mono hfrm (by decide)) (mvX.trans (Mv.same s14)) (hbX.same s14)
          · walk_at "go"
            refine ⟨b, g, .ref l, diagF d, m, F', R, W, rfl, hgr, hbX.same s14, hTv, hfrm, hm1, hm, fun H5 v5 T5 h5 hf5 m5 hb5 => ?_⟩
            exact q _ _ T5 h5 hf5 (mvX.trans ((Mv.same s14).trans m5)) hb5
theorem ok_read_form {f : Addr} {fd : FuncData} (F : FnP K "read_form" s_read_form f fd)
    {f_form_or_none : Addr} {fd_form_or_none : FuncData} (F_form_or_none : FnP K "form_or_none" s_form_or_none f_form_or_none fd_form_or_none) (b_form_or_none : Binds K fd_form_or_none ["text"] []) (g_form_or_none : mg "form_or_none" = some (.ref f_form_or_none)) (G_form_or_none : FnOk P w K mg base CX0 8 f_form_or_none fd_form_or_none ["text"] (sp_form_or_none K)) (m_isinstance : mg "isinstance" = none) (m_str : mg "str" = none) :
    FnOk P w K mg base CX0 9 f fd ["text"] (sp_read_form K) := by
  refine F.ok sc_read_form (fun vs H Q E h => ?_) (fun cdv A outer s H vs Q E hr h => ?_)
  · obtain ⟨g, t, m, D, M, a, F', R, W, rfl, hg, hf, hm1, hm, hmw, hD0, hD, hM, ha4, ha, q⟩ := h
    rfl
  · obtain ⟨g, t, m, D, M, a, F', R, W, rfl, hg, hf, hm1, hm, hmw, hD0, hD, hM, ha4, ha, q⟩ := h
    refine ⟨_, PSs.nox (pss_cons (ps_set (i := 1) sc_read_form.nd rfl (.inl rfl) (pe_cutE (pe_ifExp (pt_val (pe_callB call_isi (by rfl) m_isinstance (by decide +kernel) (pa_cons (pv 0) (pa_cons (pe_bltn (v := .ty "str") (by rfl) m_str (by decide +kernel) rfl) pa_nil)))) (pe_call G_form_or_none hr (by rfl) g_form_or_none F_form_or_none.kp b_form_or_none .nil pass0 (pa_cons (pv 0) pa_nil)) pe_non)))
        (pss_cons (ps_if (pt_cmpR op_isN (pv 1) pe_non (nomark _)) (pss_one ps_never) pss_nil)
        (pss_one (ps_ret (pv 1))))), ?_⟩
    walk_at "go"
    refine w_cutE (fun v J => ∃ f tv, v = f ∧ Same H J ∧ FormV K J f g tv ∧ TabV J tv t) ?_ (fun v3 H3 hM => ?_)
    · walk_at "go"
      refine isi_is (a := "str") (b := true) (.base (.str _)) (by rfl) ?_
      refine ⟨_, rfl, ?_⟩
      refine w_iteB (fun _ => ?_) (fun z => absurd z (by decide))
      walk_at "go"
      refine ⟨g, t, m, D, M, a, F', R, W, rfl, hg, hf, hm1, hm, hmw, hD0, hD, hM, ha4, ha, fun f tv H2 s2 hfv htv => ?_⟩
      exact ⟨f, tv, rfl, s2, hfv, htv⟩
    obtain ⟨f, tv, rfl, s3, hf3, ht3⟩ := hM
    walk_at "go"
    obtain ⟨px, dx, ex, hpx⟩ := id hf3
    refine ⟨rfl, _, rfl, ?_⟩
    refine w_iteB (fun z => by rw [ex] at z; cases of_decide_eq_true z) (fun _ => ?_)
    walk_at "go"
    exact q _ _ _ s3 hf3 ht3
theorem ok__law_is_told {f : Addr} {fd : FuncData} (F : FnP K "_law_is_told" s__law_is_told f fd)
    {f__law_form_text : Addr} {fd__law_form_text : FuncData} (F__law_form_text : FnP K "_law_form_text" s__law_form_text f__law_form_text fd__law_form_text) (b__law_form_text : Binds K fd__law_form_text ["_law_g", "_law_table"] []) (g__law_form_text : mg "_law_form_text" = some (.ref f__law_form_text)) (G__law_form_text : FnOk P w K mg base CX0 4 f__law_form_text fd__law_form_text ["_law_g", "_law_table"] (sp__law_form_text K))
    {f_read_form : Addr} {fd_read_form : FuncData} (F_read_form : FnP K "read_form" s_read_form f_read_form fd_read_form) (b_read_form : Binds K fd_read_form ["text"] []) (g_read_form : mg "read_form" = some (.ref f_read_form)) (G_read_form : FnOk P w K mg base CX0 9 f_read_form fd_read_form ["text"] (sp_read_form K))
    {f_Form___eq__ : Addr} {fd_Form___eq__ : FuncData} (F_Form___eq__ : FunD K "__eq__" "Form.__eq__" (defArgs s_Form___eq__) (defBody s_Form___eq__) (defScope s_Form___eq__) [] [] f_Form___eq__ fd_Form___eq__) (EC_Form : EqC K (He.ga K "Form") f_Form___eq__) (b_Form___eq__ : Binds K fd_Form___eq__ ["self", "other"] []) (G_Form___eq__ : FnOk P w K mg base CX0 1 f_Form___eq__ fd_Form___eq__ ["self", "other"] (sp_Form___eq__ K))
    {f_Form___len__ : Addr} {fd_Form___len__ : FuncData} (F_Form___len__ : FunD K "__len__" "Form.__len__" (defArgs s_Form___len__) (defBody s_Form___len__) (defScope s_Form___len__) [] [] f_Form___len__ fd_Form___len__) (LC_Form : LenC K (He.ga K "Form") f_Form___len__) (b_Form___len__ : Binds K fd_Form___len__ ["self"] []) (G_Form___len__ : FnOk P w K mg base CX0 1 f_Form___len__ fd_Form___len__ ["self"] (sp_Form___len__ K))
    {f_Form___str__ : Addr} {fd_Form___str__ : FuncData} (F_Form___str__ : FunD K "__str__" "Form.__str__" (defArgs s_Form___str__) (defBody s_Form___str__) (defScope s_Form___str__) [] [] f_Form___str__ fd_Form___str__) (SC_Form : StrC K (He.ga K "Form") f_Form___str__) (b_Form___str__ : Binds K fd_Form___str__ ["self"] []) (G_Form___str__ : FnOk P w K mg base CX0 4 f_Form___str__ fd_Form___str__ ["self"] (sp_Form___str__ K))
    {f_Form___repr__ : Addr} {fd_Form___repr__ : FuncData} (F_Form___repr__ : FunD K "__repr__" "Form.__repr__" (defArgs s_Form___repr__) (defBody s_Form___repr__) (defScope s_Form___repr__) [] [] f_Form___repr__ fd_Form___repr__) (RC_Form : ReprC K (He.ga K "Form") f_Form___repr__) (b_Form___repr__ : Binds K fd_Form___repr__ ["self"] []) (G_Form___repr__ : FnOk P w K mg base CX0 7 f_Form___repr__ fd_Form___repr__ ["self"] (sp_Form___repr__ K)) (gi_Form : mg "Form" = some (.ref (He.ga K "Form"))) (IC_Form : C8.InsC K (He.ga K "Form")) (CF : FormC K) (m_str : mg "str" = none) (m_repr : mg "repr" = none) (m_isinstance : mg "isinstance" = none) (m_len : mg "len" = none) :
    FnOk P w K mg base CX0 10 f fd ["_law_g", "_law_table", "_law_form_here"] (sp__law_is_told K) := by
  refine F.ok sc__law_is_told (fun vs H Q E h => ?_) (fun cdv A outer s H vs Q E hr h => ?_)
  · obtain ⟨g, fv, tv, tv', t, m, D, M, a, F', R, W, rfl, hg, hf, ht, ht', hfm, hm1, hm, hmw, hD0, hD, hM, ha4, ha, q⟩ := h
    rfl
  · obtain ⟨g, fv, tv, tv', t, m, D, M, a, F', R, W, rfl, hg, hf, ht, ht', hfm, hm1, hm, hmw, hD0, hD, hM, ha4, ha, q⟩ := h
    refine ⟨_, PSs.nox (pss_cons (ps_set (i := 3) sc__law_is_told.nd rfl (.inl rfl) (pe_call G__law_form_text (hr.mono (by decide)) (by rfl) g__law_form_text F__law_form_text.kp b__law_form_text .nil pass0 (pa_cons (pv 0) (pa_cons (pv 1) pa_nil))))
        (pss_cons (ps_if (PW.pt (pw_or (pt_cmpR op_ne (pe_callTy (call_strO SC_Form G_Form___str__ b_Form___str__ pass0 (hr.mono (by decide))) (by rfl) m_str (by decide +kernel) (pa_cons (pv 2) pa_nil)) (pv 3) (nomark _)) (pw_or1 (pt_cmpR op_ne (pe_callB (call_reprO RC_Form G_Form___repr__ b_Form___repr__ pass0 (hr.mono (by decide))) (by rfl) m_repr (by decide +kernel) (pa_cons (pv 2) pa_nil)) (pe_op op_add_str (pe_op op_add_str pe_str (pv 3)) pe_str) (nomark _))))) (pss_one (ps_ret pe_bl)) pss_nil)
        (pss_cons (ps_set (i := 4) sc__law_is_told.nd rfl (.inl rfl) (pe_call G_read_form hr (by rfl) g_read_form F_read_form.kp b_read_form .nil pass0 (pa_cons (pv 3) pa_nil)))
        (pss_cons (ps_if (PW.pt (pw_or (pt_not (pt_val (pe_callB (C8.call_isC IC_Form) (by rfl) m_isinstance (by decide +kernel) (pa_cons (pv 4) (pa_cons (pe_glob (v := .ref (He.ga K "Form")) (by rfl) gi_Form rfl) pa_nil))))) (pw_or (pt_cmpR (op_neD hr.units) (pe_fld (pv 4) rfl) (pv 1) (nomark _)) (pw_or1 (pt_cmpR op_ne (pe_fld (pv 4) rfl) (pv 0) (nomark _)))))) (pss_one (ps_ret pe_bl)) pss_nil)
        (pss_one (ps_ret (pe_and (pe_cmpR (op_eqO EC_Form G_Form___eq__ b_Form___eq__ pass0 (hr.mono (by decide))) (pv 4) (pv 2) (nomark _)) (pe_and (pe_cmpR op_eq (pe_callB (call_lenO LC_Form G_Form___len__ b_Form___len__ pass0 (hr.mono (by decide))) (by rfl) m_len (by decide +kernel) (pa_cons (pv 4) pa_nil)) (pe_callB call_len_seq (by rfl) m_len (by decide +kernel) (pa_cons (pv 1) pa_nil)) (nomark _)) (pe_one (pe_cmpR op_eq (pe_callTy (call_strO SC_Form G_Form___str__ b_Form___str__ pass0 (hr.mono (by decide))) (by rfl) m_str (by decide +kernel) (pa_cons (pv 4) pa_nil)) (pv 3) (nomark _))))))))))), ?_⟩
    obtain ⟨hg0, hgl⟩ := gr_log hg
    obtain ⟨p, dx, rfl, hp⟩ := id hf
    have zl : (1500000 : Nat) ≤ sizeLine := by decide
    have hT : TxT g m t := ⟨hfm.len, a + 1, by omega, fun r hr' => ⟨(hfm.row r hr').1, (hfm.row r hr').tn hg (by omega) hD0 (pw_lt hD (by omega)) (pw_lt hM (by omega))⟩⟩
    have ⟨hts, htl⟩ := hT.sm hm
    have hfl := formT_len hT hm hg
    have l7 : (Str.ofString "Form(").length = 5 := by decide
    have l1 : (Str.ofString ")").length = 1 := by decide
    walk_at "go"
    refine ⟨g, tv, t, rfl, ht, hts, htl, hg0, hgl, fun H1 s1 => ?_⟩
    walk_at "go"
    refine w_strO (s1 _ _ hp) ⟨g, _, tv', t, rfl, hf.sm s1, TabV.kt ht' (Kt.of s1), hts, htl, hgl, fun H2 s2 => ⟨_, rfl, ?_⟩⟩
    have s12 := s1.trans s2
    walk_at "go"
    refine w_neStr ?_
    rw [decide_eq_true (show formT g t = formT g t from rfl)]
    refine ⟨_, rfl, ?_⟩
    refine w_iteB (fun z => absurd z (by decide)) (fun _ => ?_)
    walk_at "go"
    refine w_strO (s12 _ _ hp) ⟨g, _, tv', t, rfl, hf.sm s12, TabV.kt ht' (Kt.of s12), hts, htl, hgl, fun H3 s3 => ⟨_, rfl, ?_⟩⟩
    have s13 := s12.trans s3
    walk_at "go"
    refine ⟨_, _, rfl, rfl, by omega, ?_⟩
    walk_at "go"
    refine ⟨_, _, rfl, rfl, by rw [Str.length_append]; omega, ?_⟩
    walk_at "go"
    refine w_neStr ?_
    refine ⟨_, rfl, ?_⟩
    refine w_iteB (fun z => by rw [decide_eq_true rfl] at z; exact absurd z (by decide)) (fun _ => ?_)
    walk_at "go"
    refine ⟨g, t, m, D, M, a, F', R, W, rfl, hg, hfm, hm1, hm, hmw, hD0, hD, hM, ha4, ha, fun y tv2 H4 s4 hy ht2 => ?_⟩
    have s14 := s13.trans s4
    obtain ⟨py, dy, ey, hpy⟩ := id hy
    subst ey
    walk_at "go"
    refine ⟨py, dy, _, rfl, hpy, ?_⟩
    refine ⟨_, rfl, ?_⟩
    refine w_iteB (fun z => absurd z (by decide)) (fun _ => ?_)
    walk_at "go"
    refine w_tab CF hy ?_
    walk_at "go"
    refine w_neTab ht2 (TabV.kt ht (Kt.of (s13.trans s4))) rfl ?_
    refine ⟨_, rfl, ?_⟩
    refine w_iteB (fun z => absurd z (by decide)) (fun _ => ?_)
    walk_at "go"
    refine w_gnd CF hy ?_
    walk_at "go"
    refine w_iteB (fun z => by rw [decide_eq_true rfl] at z; exact absurd z (by decide)) (fun _ => ?_)
    walk_at "go"
    refine w_eqO hpy (s14 _ _ hp) ⟨py, p, g, g, tv2, tv', t, t, rfl, hy, hf.sm s14, ht2, TabV.kt ht' (Kt.of s14), fun H7 s7 => ?_⟩
    rw [decide_eq_true (show g = g from rfl), decide_eq_true (show t = t from rfl)]
    refine ⟨_, rfl, _, rfl, ?_⟩
    refine w_iteB (fun _ => ?_) (fun z => absurd z (by decide))
    have s17 := s14.trans s7
    obtain ⟨pt, xt, rfl, hpt, hlt, _⟩ := id ht
    walk_at "go"
    refine ⟨py, dy, _, rfl, s7 _ _ hpy, ⟨.ref py, tv2, g, t, rfl, hy.sm s7, TabV.kt ht2 (Kt.of s7), by have := hfm.len; omega, _, rfl, by have := hfm.len; omega, by have := hfm.len; omega, ?_⟩⟩
    walk_at "go"
    refine ⟨pt, xt, rfl, .inr (SqT.of (s17 _ _ hpt)), ?_⟩
    refine w_eqI ?_
    rw [decide_eq_true (show (t.length : Int) = (xt.length : Int) by omega)]
    refine ⟨_, rfl, ?_⟩
    refine w_iteB (fun _ => ?_) (fun z => absurd z (by decide))
    walk_at "go"
    refine w_strO (s7 _ _ hpy) ⟨g, _, tv2, t, rfl, hy.sm s7, TabV.kt ht2 (Kt.of s7), hts, htl, hgl, fun H8 s8 => ⟨_, rfl, ?_⟩⟩
    walk_at "go"
    refine w_eqStr ?_
    rw [decide_eq_true rfl]
    exact q _ (s17.trans s8)
theorem ok_law {f : Addr} {fd : FuncData} (F : FnP K "law" s_law f fd)
    {f__law_bag : Addr} {fd__law_bag : FuncData} (F__law_bag : FnP K "_law_bag" s__law_bag f__law_bag fd__law_bag) (b__law_bag : Binds K fd__law_bag ["_law_script", "_law_at"] []) (g__law_bag : mg "_law_bag" = some (.ref f__law_bag)) (G__law_bag : FnOk P w K mg base CX0 1 f__law_bag fd__law_bag ["_law_script", "_law_at"] (sp__law_bag K))
    {f__law_ground : Addr} {fd__law_ground : FuncData} (F__law_ground : FnP K "_law_ground" s__law_ground f__law_ground fd__law_ground) (b__law_ground : Binds K fd__law_ground ["_law_bag_here"] []) (g__law_ground : mg "_law_ground" = some (.ref f__law_ground)) (G__law_ground : FnOk P w K mg base CX0 2 f__law_ground fd__law_ground ["_law_bag_here"] (sp__law_ground K))
    {f__law_wide_form : Addr} {fd__law_wide_form : FuncData} (F__law_wide_form : FnP K "_law_wide_form" s__law_wide_form f__law_wide_form fd__law_wide_form) (b__law_wide_form : Binds K fd__law_wide_form ["_law_bag_here", "_law_g", "_law_table"] []) (g__law_wide_form : mg "_law_wide_form" = some (.ref f__law_wide_form)) (G__law_wide_form : FnOk P w K mg base CX0 5 f__law_wide_form fd__law_wide_form ["_law_bag_here", "_law_g", "_law_table"] (sp__law_wide_form K))
    {f__law_form : Addr} {fd__law_form : FuncData} (F__law_form : FnP K "_law_form" s__law_form f__law_form fd__law_form) (b__law_form : Binds K fd__law_form ["_law_bag_here", "_law_g", "_law_many"] []) (g__law_form : mg "_law_form" = some (.ref f__law_form)) (G__law_form : FnOk P w K mg base CX0 8 f__law_form fd__law_form ["_law_bag_here", "_law_g", "_law_many"] (sp__law_form K))
    {f_read_form : Addr} {fd_read_form : FuncData} (F_read_form : FnP K "read_form" s_read_form f_read_form fd_read_form) (b_read_form : Binds K fd_read_form ["text"] []) (g_read_form : mg "read_form" = some (.ref f_read_form)) (G_read_form : FnOk P w K mg base CX0 9 f_read_form fd_read_form ["text"] (sp_read_form K))
    {f__law_letters : Addr} {fd__law_letters : FuncData} (F__law_letters : FnP K "_law_letters" s__law_letters f__law_letters fd__law_letters) (b__law_letters : Binds K fd__law_letters ["_law_bag_here", "_law_g"] []) (g__law_letters : mg "_law_letters" = some (.ref f__law_letters)) (G__law_letters : FnOk P w K mg base CX0 2 f__law_letters fd__law_letters ["_law_bag_here", "_law_g"] (sp__law_letters K))
    {f__law_is_told : Addr} {fd__law_is_told : FuncData} (F__law_is_told : FnP K "_law_is_told" s__law_is_told f__law_is_told fd__law_is_told) (b__law_is_told : Binds K fd__law_is_told ["_law_g", "_law_table", "_law_form_here"] []) (g__law_is_told : mg "_law_is_told" = some (.ref f__law_is_told)) (G__law_is_told : FnOk P w K mg base CX0 10 f__law_is_told fd__law_is_told ["_law_g", "_law_table", "_law_form_here"] (sp__law_is_told K))
    {f_Form___init__ : Addr} {fd_Form___init__ : FuncData} (F_Form___init__ : FunD K "__init__" "Form.__init__" (defArgs s_Form___init__) (defBody s_Form___init__) (defScope s_Form___init__) [.int 0] [] f_Form___init__ fd_Form___init__) (M_Form : Mk K (He.ga K "Form") f_Form___init__) (gc_Form : mg "Form" = some (.ref (He.ga K "Form"))) {ds_Form___init__ : List Value} (hd_Form___init__ : Vals [.int 0] ds_Form___init__) (bd_Form___init__ : Binds K fd_Form___init__ ["self", "table", "ground"] ds_Form___init__) (kb_Form_1_ground : L2.KBn K fd_Form___init__ ["self", "table", "ground"] 2 ["ground"] (fun us ws => us ++ ws) (fun us ws => us ++ ws)) (G_Form___init__ : FnOk P w K mg base CX0 6 f_Form___init__ fd_Form___init__ ["self", "table", "ground"] (sp_Form___init__ K))
    {f_Form___eq__ : Addr} {fd_Form___eq__ : FuncData} (F_Form___eq__ : FunD K "__eq__" "Form.__eq__" (defArgs s_Form___eq__) (defBody s_Form___eq__) (defScope s_Form___eq__) [] [] f_Form___eq__ fd_Form___eq__) (EC_Form : EqC K (He.ga K "Form") f_Form___eq__) (b_Form___eq__ : Binds K fd_Form___eq__ ["self", "other"] []) (G_Form___eq__ : FnOk P w K mg base CX0 1 f_Form___eq__ fd_Form___eq__ ["self", "other"] (sp_Form___eq__ K))
    {f_Form___str__ : Addr} {fd_Form___str__ : FuncData} (F_Form___str__ : FunD K "__str__" "Form.__str__" (defArgs s_Form___str__) (defBody s_Form___str__) (defScope s_Form___str__) [] [] f_Form___str__ fd_Form___str__) (SC_Form : StrC K (He.ga K "Form") f_Form___str__) (b_Form___str__ : Binds K fd_Form___str__ ["self"] []) (G_Form___str__ : FnOk P w K mg base CX0 4 f_Form___str__ fd_Form___str__ ["self"] (sp_Form___str__ K)) (m_range : mg "range" = none) (m_max : mg "max" = none) (m_all : mg "all" = none) (m_min : mg "min" = none) (m_str : mg "str" = none) (m_len : mg "len" = none) :
    FnOk P w K mg base CX0 11 f fd ["_law_script"] (sp_law K) := by
  refine F.ok sc_law (fun vs H Q E h => ?_) (fun cdv A outer s H vs Q E hr h => ?_)
  · obtain ⟨a, ns, rfl, hA, q⟩ := h
    rfl
  · obtain ⟨a, ns, rfl, hA, q⟩ := h
    refine ⟨_, PSs.nox (pss_cons (ps_set (i := 1) sc_law.nd rfl (.inl rfl) (pe_lst pa_nil))
        (pss_cons (ps_for PassesOwn.never rfl (pi_range1 (by rfl) m_range (pa_cons (pe_callB (call_max2 rfl) (by rfl) m_max (by decide +kernel) (pa_cons pe_int (pa_cons (pe_callB (call_min2 rfl) (by rfl) m_min (by decide +kernel) (pa_cons pe_int (pa_cons (pe_callB call_len_seq (by rfl) m_len (by decide +kernel) (pa_cons (pv 0) pa_nil)) pa_nil))) pa_nil))) pa_nil)) (pg_name (i := 2) sc_law.nd rfl (.inl rfl)) (pss_cons (ps_set (i := 3) sc_law.nd rfl (.inl rfl) (pe_call G__law_bag (hr.mono (by decide)) (by rfl) g__law_bag F__law_bag.kp b__law_bag .nil pass0 (pa_cons (pv 0) (pa_cons (pv 2) pa_nil))))
        (pss_cons (ps_set (i := 4) sc_law.nd rfl (.inl rfl) (pe_call G__law_ground (hr.mono (by decide)) (by rfl) g__law_ground F__law_ground.kp b__law_ground .nil pass0 (pa_cons (pv 3) pa_nil)))
        (pss_cons (ps_set (i := 5) sc_law.nd rfl (.inl rfl) (pe_call G__law_wide_form (hr.mono (by decide)) (by rfl) g__law_wide_form F__law_wide_form.kp b__law_wide_form .nil pass0 (pa_cons (pv 3) (pa_cons (pv 4) (pa_cons (pe_call G__law_form (hr.mono (by decide)) (by rfl) g__law_form F__law_form.kp b__law_form .nil pass0 (pa_cons (pv 3) (pa_cons (pv 4) (pa_cons (pe_call G__law_letters (hr.mono (by decide)) (by rfl) g__law_letters F__law_letters.kp b__law_letters .nil pass0 (pa_cons (pv 3) (pa_cons (pv 4) pa_nil))) pa_nil)))) pa_nil)))))
        (pss_cons (ps_set (i := 6) sc_law.nd rfl (.inl rfl) (pe_makeN M_Form G_Form___init__ (hr.mono (by decide)) (by rfl) gc_Form kb_Form_1_ground pass0 (pa_cons (pv 5) pa_nil) (pk_cons (pv 4) pk_nil)))
        (pss_cons (ps_if (PW.pt (pw_or (pt_not (pt_val (pe_call G__law_is_told hr (by rfl) g__law_is_told F__law_is_told.kp b__law_is_told .nil pass0 (pa_cons (pv 4) (pa_cons (pv 5) (pa_cons (pv 6) pa_nil)))))) (pw_or1 (pt_cmpR (op_neO EC_Form G_Form___eq__ b_Form___eq__ pass0 (hr.mono (by decide))) (pe_call G_read_form (hr.mono (by decide)) (by rfl) g_read_form F_read_form.kp b_read_form .nil pass0 (pa_cons (pe_callTy (call_strO SC_Form G_Form___str__ b_Form___str__ pass0 (hr.mono (by decide))) (by rfl) m_str (by decide +kernel) (pa_cons (pv 6) pa_nil)) pa_nil)) (pv 6) (nomark _))))) (pss_one (ps_ret pe_bl)) pss_nil)
        (pss_one (ps_expr (pe_bm PySem.F.plainAttrs_list PySem.F.slot_list_append PySem.F.type_list_append mt_append (pv 1) (pa_cons (pe_tup (pa_cons (pv 4) (pa_cons (pv 5) (pa_cons (pv 6) pa_nil)))) pa_nil))))))))))
        (pss_cons (ps_if (pt_not (pt_val (pe_callB (cr_all rfl) (by rfl) m_all (by decide +kernel) (pa_cons (pe_lc (own := [("_law_g", 4), ("_law_table", 5), ("_law_form_here", 6)]) (g := gTup K 3 (gCons (gName 4) (gCons (gName 5) (gCons (gName 6) (gNil))))) (tt := tYes) (by rfl) sc_law.nd (pi_list (pv 1)) (blkOk_by (own := [("_law_g", 4), ("_law_table", 5), ("_law_form_here", 6)]) (N := ["_law_script", "_law_ahead", "_law_k", "_law_bag_here", "_law_g", "_law_table", "_law_form_here", "_law_two"]) (sc := defScope s_law) (by decide +kernel)) (fun _ _ _ _ _ => (pg_tup rfl (pgs_cons (pg_name (i := 4) sc_law.nd rfl (.inl rfl)) (pgs_cons (pg_name (i := 5) sc_law.nd rfl (.inl rfl)) (pgs_cons (pg_name (i := 6) sc_law.nd rfl (.inl rfl)) pgs_nil))))) (fun _ _ _ _ _ => pts_nil) (fun _ _ _ _ _ => (pe_call G__law_is_told hr (by rfl) g__law_is_told F__law_is_told.kp b__law_is_told .nil pass0 (pa_cons (pv 4) (pa_cons (pv 5) (pa_cons (pv 6) pa_nil)))))) pa_nil)))) (pss_one (ps_ret pe_bl)) pss_nil)
        (pss_cons (ps_set (i := 7) sc_law.nd rfl (.inl rfl) (pe_make M_Form G_Form___init__ (hr.mono (by decide)) (by rfl) gc_Form bd_Form___init__ hd_Form___init__ pass0 (pa_cons (pe_tup (pa_cons (pe_tup (pa_cons (pe_tup (pa_cons pe_int (pa_cons pe_int pa_nil))) (pa_cons (pe_tup (pa_cons pe_int (pa_cons pe_int pa_nil))) pa_nil))) (pa_cons (pe_tup (pa_cons (pe_tup (pa_cons pe_int (pa_cons pe_int pa_nil))) (pa_cons (pe_tup (pa_cons (pe_un un_neg pe_int) (pa_cons pe_int pa_nil))) pa_nil))) pa_nil))) pa_nil)))
        (pss_one (ps_ret (pe_and (pe_cmpR (op_eqO EC_Form G_Form___eq__ b_Form___eq__ pass0 (hr.mono (by decide))) (pe_call G_read_form (hr.mono (by decide)) (by rfl) g_read_form F_read_form.kp b_read_form .nil pass0 (pa_cons pe_str pa_nil)) (pv 7) (nomark _)) (pe_one (pe_cmpR op_eq (pe_callTy (call_strO SC_Form G_Form___str__ b_Form___str__ pass0 (hr.mono (by decide))) (by rfl) m_str (by decide +kernel) (pa_cons (pe_call G_read_form (hr.mono (by decide)) (by rfl) g_read_form F_read_form.kp b_read_form .nil pass0 (pa_cons pe_str pa_nil)) pa_nil)) pe_str (nomark _)))))))))), ?_⟩
    walk_at "go"
    refine w_new (by simp) fun A H1 hA0 s1 hA1 => ?_
    walk_at "go"
    refine ⟨a, _, rfl, .inl (s1.seq hA), ?_⟩
    walk_at "go"
    refine ⟨by split <;> (try split) <;> omega, by split <;> (try split) <;> omega, ?_⟩
    refine for_range (fun i σ H' => (∃ y2 y3 y4 y5 y6 y7, σ = [some (.ref a), some (.ref A), y2, y3, y4, y5, y6, y7]) ∧ Same H H' ∧ ∃ zs, H' A = some (.lst zs) ∧ zs.length = i ∧ ∀ z ∈ zs, AheadF K H' z) ⟨⟨_, _, _, _, _, _, rfl⟩, s1, [], hA1, rfl, fun z hz => by cases hz⟩ (fun i σ Hs hi hP => ?_) (fun σ H' hP => ?_)
    · have hi6 : i < 6 := by
        revert hi
        split <;> (try split) <;> omega
      clear hi
      obtain ⟨⟨y2, y3, y4, y5, y6, y7, rfl⟩, smH, zs, hAz, hzl, hall⟩ := hP
      walk_at "go"
      refine ⟨a, ns, 0 + i, rfl, smH.seq hA, by omega, by omega, fun b H2 hb0 s2 hb2 => ?_⟩
      walk_at "go"
      refine ⟨b, rfl, hb2, fun H3 g hgr m3 hb3 => ?_⟩
      have hg := hgr.two
      have ⟨hg0, hg13⟩ := hgr.bd
      have hgl : g.natAbs.log2 < 1920 := by
        rcases hgr with rfl | rfl | rfl | rfl | rfl | rfl <;> decide
      obtain ⟨F', R, ⟨W⟩⟩ := gv_any hg
      have sm3 : Same Hs H3 := Same.mv s2 hb0 m3
      walk_at "go"
      refine ⟨b, g, rfl, hgr, hb3, fun H4 m h1m hm hmw m4 hb4 => ?_⟩
      walk_at "go"
      refine ⟨b, g, m, F', R, W, rfl, hgr, hb4, h1m, hm, fun H5 tv1 t1 ht1 hf1 m5 hb5 => ?_⟩
      walk_at "go"
      refine ⟨b, g, tv1, t1, m, F', R, W, rfl, hgr, hb5, ht1, hf1, h1m, hm, fun H6 tv t D M ht hf hD0 hD hM m6 hb6 => ?_⟩
      have sm6 := Same.mv (Same.mv (Same.mv sm3 hb0 m4) hb0 m5) hb0 m6
      walk_at "go"
      refine ⟨rfl, rfl, form_mk (a := 300) (W := W) hg ht hf h1m hm hmw hD0 hD hM (by decide) (by decide) fun f H7 s7 h7 => ?_⟩
      have ht7 := TabV.kt ht (Kt.of s7)
      walk_at "go"
      refine ⟨g, .ref f, tv, tv, t, m, D, M, 300, F', R, W, rfl, hg, h7, ht7, ht7, hf, h1m, hm, hmw, hD0, hD, hM, by decide, by decide, fun H8 s8 => ?_⟩
      refine ⟨_, rfl, ?_⟩
      refine w_iteBN (fun z => absurd z (by decide)) (fun _ => ?_)
      walk_at "go"
      have hT : TxT g m t := ⟨hf.len, 301, by omega, fun r hr' => ⟨(hf.row r hr').1, (hf.row r hr').tn hg (by omega) hD0 (pw_lt hD (by omega)) (pw_lt hM (by omega))⟩⟩
      have ⟨hts, htl⟩ := hT.sm hm
      have ht8 := TabV.kt ht7 (Kt.of s8)
      have h8 := h7.sm s8
      obtain ⟨pf, df, ef, hpf⟩ := id h8
      cases ef
      refine w_strO hpf ⟨g, _, tv, t, rfl, h8, ht8, hts, htl, hgl, fun H9 s9 => ⟨_, rfl, ?_⟩⟩
      walk_at "go"
      refine ⟨g, t, m, D, M, 300, F', R, W, rfl, hg, hf, h1m, hm, hmw, hD0, hD, hM, by decide, by decide, fun y tv2 H10 s10 hy ht2 => ?_⟩
      obtain ⟨py, dy, ey, hpy⟩ := id hy
      subst ey
      have s90 := s9.trans s10
      walk_at "go"
      refine w_eqO hpy (s90 _ _ hpf) ⟨py, f, g, g, tv2, tv, t, t, rfl, hy, h8.sm s90, ht2, TabV.kt ht8 (Kt.of s90), fun H11 s11 => ?_⟩
      rw [decide_eq_true (show g = g from rfl), decide_eq_true (show t = t from rfl)]
      refine ⟨_, rfl, _, rfl, ?_⟩
      refine w_iteB (fun z => absurd z (by decide)) (fun _ => ?_)
      walk_at "go"
      have s711 := s7.trans (s8.trans (s90.trans s11))
      have hA11 := (sm6.trans s711) _ _ hAz
      refine ⟨.inl ⟨rfl, _, SqL.of hA11⟩, ?_⟩
      walk_at "go"
      refine w_new (xs := [.int g, tv, .ref f]) (show 3 ≤ 1000 by decide) fun pq H12 hpq s12 hq12 => ?_
      have s612 := s711.trans s12
      have sm12 := sm6.trans s612
      walk_at "go"
      refine w_append (sm12 _ _ hAz) (by omega) ?_
      walk_at "go"
      refine ⟨⟨_, _, _, _, _, _, rfl⟩, Same.updD (smH.trans sm12) hA0, _, upd_same, by rw [List.length_append, hzl]; rfl, fun z hz => ?_⟩
      rcases List.mem_append.mp hz with hz | hz
      · exact ((hall z hz).sm sm12).updL (sm12 _ _ hAz)
      · rw [List.mem_singleton.mp hz]
        exact AheadF.updL ⟨pq, g, tv, .ref f, tv, t, m, D, M, F', R, W, rfl, hq12, hgr, TabV.kt ht (Kt.of s612), h7.sm ((s8.trans (s90.trans s11)).trans s12), TabV.kt ht (Kt.of s612), hf, h1m, hm, hmw, hD0, hD, hM⟩ (sm12 _ _ hAz)
    obtain ⟨⟨y2, y3, y4, y5, y6, y7, rfl⟩, smH, zs, hAz, hzl, hall⟩ := hP
    have hz6 : zs.length ≤ 6 := by
      rw [hzl]
      split <;> (try split) <;> omega
    clear hzl
    walk_at "go"
    refine ⟨A, rfl, ⟨_, SqL.of hAz⟩, fun DD hDD => ?_⟩
    refine lc_list (xs := zs) (fun i J => Same H' J ∧ J DD = some (.lst ((List.replicate i true).map V.bl))) ⟨Same.updD (Same.refl H') hDD, upd_same⟩ (fun i J _ hP => SqL.of (hP.1 _ _ hAz)) (fun i v J hvi hP => ?_) (fun J hP => ?_)
    · obtain ⟨sj, hJ⟩ := hP
      have hi := (List.getElem?_eq_some_iff.mp hvi).1
      obtain ⟨p, g, tv, fv, tv', t, m, D, M, F, R, W, rfl, hp, hgr, h1, h4, h5, hfm, hm1, hm, hmw, hD0, hD, hM⟩ := (hall v (List.mem_of_getElem? hvi)).sm sj
      walk_at "go"
      refine ⟨rfl, ?_⟩
      walk_at "go"
      refine ⟨g, fv, tv, tv', t, m, D, M, 300, F, R, W, rfl, hgr.two, h4, h1, h5, hfm, hm1, hm, hmw, hD0, hD, hM, by decide, by decide, fun J4 s4 => ?_⟩
      refine ⟨_, s4 _ _ hJ, ?_, Same.updD (sj.trans s4) hDD, ?_⟩
      · rw [List.length_map, List.length_replicate]
        exact small1000 (by omega)
      · rw [upd_same, List.replicate_succ', List.map_append]
        rfl
    obtain ⟨sj, hJ⟩ := hP
    walk_at "go"
    refine ⟨DD, _, rfl, SqL.of hJ, ?_⟩
    rw [all_true]
    refine ⟨_, rfl, ?_⟩
    refine w_iteB (fun z => absurd z (by decide)) (fun _ => ?_)
    walk_at "go"
    obtain ⟨F0, R0, W0, f2⟩ := two_law
    obtain ⟨F3, R3, W3, f3⟩ := three_law
    obtain ⟨t2, t3⟩ := two_texts
    have z0 : (0 : Int) = 0 ∨ Gr5 0 := .inl rfl
    have z3 : (3 : Int) = 0 ∨ Gr5 3 := .inr (.inl rfl)
    refine w_new (by simp) fun a1 J1 ha1 s1 h1 => ?_
    walk_at "go"
    refine w_new (by simp) fun a2 J2 ha2 s2 h2 => ?_
    walk_at "go"
    refine w_new (by simp) fun a3 J3 ha3 s3 h3 => ?_
    walk_at "go"
    refine w_new (by simp) fun a4 J4 ha4 s4 h4 => ?_
    walk_at "go"
    refine w_new (by simp) fun a5 J5 ha5 s5 h5 => ?_
    walk_at "go"
    refine w_new (by simp) fun a6 J6 ha6 s6 h6 => ?_
    walk_at "go"
    refine w_new (by simp) fun a7 J7 ha7 s7 h7 => ?_
    walk_at "go"
    have e7 : ∀ {p : Addr} {o : HO}, J6 p = some o → J7 p = some o := fun h => s7 _ _ h
    have e6 : ∀ {p : Addr} {o : HO}, J5 p = some o → J7 p = some o := fun h => e7 (s6 _ _ h)
    have e5 : ∀ {p : Addr} {o : HO}, J4 p = some o → J7 p = some o := fun h => e6 (s5 _ _ h)
    have e4 : ∀ {p : Addr} {o : HO}, J3 p = some o → J7 p = some o := fun h => e5 (s4 _ _ h)
    have e3 : ∀ {p : Addr} {o : HO}, J2 p = some o → J7 p = some o := fun h => e4 (s3 _ _ h)
    have ht : TabV J7 (.ref a7) [[(1, 1), (0, 1)], [(0, 1), (-1, 2)]] := by
      refine sqv2 h7 (sqv2 (e4 h3) ⟨a1, rfl, e3 (s2 _ _ h1)⟩ ⟨a2, rfl, e3 h2⟩) (sqv2 (e7 h6) ⟨a4, rfl, e5 h4⟩ ⟨a5, rfl, e6 h5⟩)
    refine form_mk (a := 44) (W := W0) z0 ht f2 (by decide) (by decide) (fun h => absurd rfl h) (by decide) (by decide) (by decide) (by decide) (by decide) fun f J8 s8 hf => ?_
    have ht8 := TabV.kt ht (Kt.of s8)
    walk_at "go"
    refine ⟨0, [[(1, 1), (0, 1)], [(0, 1), (-1, 2)]], 2, 2520, 16128000000000, 44, F0, R0, W0, by rw [t2]; rfl, z0, f2, by decide, by decide, fun h => absurd rfl h, by decide, by decide, by decide, by decide, by decide, fun y tv2 J9 s9 hy ht2 => ?_⟩
    obtain ⟨py, dy, ey, hpy⟩ := id hy
    subst ey
    obtain ⟨pf, df, ef, hpf⟩ := id hf
    cases ef
    walk_at "go"
    refine w_eqO hpy (s9 _ _ hpf) ⟨py, f, 0, 0, tv2, _, _, _, rfl, hy, hf.sm s9, ht2, TabV.kt ht8 (Kt.of s9), fun J10 s10 => ?_⟩
    refine ⟨_, rfl, _, rfl, ?_⟩
    refine w_iteB (fun _ => ?_) (fun z => absurd z (by decide +kernel))
    walk_at "go"
    refine ⟨3, [[(2, 1)]], 1, 2520, 16128000000000, 44, F3, R3, W3, by rw [t3]; rfl, z3, f3, by decide, by decide, fun _ => by decide, by decide, by decide, by decide, by decide, by decide, fun y3 tv3 J11 s11 hy3 ht3 => ?_⟩
    obtain ⟨p3, d3, e3', hp3⟩ := id hy3
    subst e3'
    have hT : TxT 3 1 [[(2, 1)]] := ⟨rfl, 45, by omega, fun r hr' => ⟨(f3.row r hr').1, (f3.row r hr').tn z3 (by omega) (by decide) (by decide) (by decide)⟩⟩
    have ⟨hts, htl⟩ := hT.sm (by decide)
    walk_at "go"
    refine w_strO hp3 ⟨3, _, tv3, _, rfl, hy3, ht3, hts, htl, by decide, fun J12 s12 => ⟨_, rfl, ?_⟩⟩
    walk_at "go"
    rw [t3]
    refine w_eqStr ?_
    rw [decide_eq_true rfl]
    exact q _

def lamTabs (K : PySem.W.Frag) : List (Addr × Str) := []
theorem facts {w : World} {K : PySem.W.Frag} {h : Heap} {mg : Str → Option Value} {f : Addr} (X : K.In h) (G : h.Ns mainGlobals mg) (hfa : mg ("law" : Str) = some (.ref f)) (c2 : He.SaysX fa fn tsW tf exB w h K) :
    ∃ fd : FuncData, (∀ (s : Shared) (v : Value), BindsTo s fd ⟨[v], []⟩ [("_law_script", v)]) ∧ ∀ base : Heap, K.In base → base.Ns mainGlobals mg → (∀ p ∈ tf.map (He.cT K), LamX.TabB base mg p.1 p.2) → FnOk PP w K mg base CX0 11 f fd ["_law_script"] (sp_law K) := by
  have c : He.SaysD fa fn K := c2.t.d
  have cm : exB K = true := c2.more
  have gc_Form := He.glo_ok X G (c.fact 69 (f := .glo "Form") rfl)
  have M_Form := He.mkr_ok (c.fact 71 (f := .mkr "Form") rfl)
  have CF : FormC K := ⟨He.cls_ok (c.fact 70 (f := .cls "Form") rfl), He.noat_ok (c.fact 72 (f := .noat "Form" "table") rfl), He.noat_ok (c.fact 73 (f := .noat "Form" "ground") rfl)⟩
  obtain ⟨fd_is_whole, F_is_whole⟩ := c.def_ 0 (d := d_is_whole) rfl
  have g_is_whole := He.glo_ok X G (c.fact 0 (f := .glo "is_whole") rfl)
  have b_is_whole : L2.Binds K fd_is_whole ["thing"] [] := FunD.bindsN (ps := ["thing"]) F_is_whole fun _ _ _ _ _ _ us hl => match us, hl with | [_], _ => rfl
  obtain ⟨fd_common_divisor, F_common_divisor⟩ := c.def_ 1 (d := d_common_divisor) rfl
  have g_common_divisor := He.glo_ok X G (c.fact 1 (f := .glo "common_divisor") rfl)
  have b_common_divisor : L2.Binds K fd_common_divisor ["a", "b"] [] := FunD.bindsN (ps := ["a", "b"]) F_common_divisor fun _ _ _ _ _ _ us hl => match us, hl with | [_, _], _ => rfl
  obtain ⟨fd_is_ground, F_is_ground⟩ := c.def_ 2 (d := d_is_ground) rfl
  have g_is_ground := He.glo_ok X G (c.fact 2 (f := .glo "is_ground") rfl)
  have b_is_ground : L2.Binds K fd_is_ground ["thing"] [] := FunD.bindsN (ps := ["thing"]) F_is_ground fun _ _ _ _ _ _ us hl => match us, hl with | [_], _ => rfl
  obtain ⟨fd_is_number, F_is_number⟩ := c.def_ 3 (d := d_is_number) rfl
  have g_is_number := He.glo_ok X G (c.fact 3 (f := .glo "is_number") rfl)
  have b_is_number : L2.Binds K fd_is_number ["ground", "thing"] [] := FunD.bindsN (ps := ["ground", "thing"]) F_is_number fun _ _ _ _ _ _ us hl => match us, hl with | [_, _], _ => rfl
  obtain ⟨fd_lowest, F_lowest⟩ := c.def_ 4 (d := d_lowest) rfl
  have g_lowest := He.glo_ok X G (c.fact 4 (f := .glo "lowest") rfl)
  have b_lowest : L2.Binds K fd_lowest ["ground", "top", "bottom"] [] := FunD.bindsN (ps := ["ground", "top", "bottom"]) F_lowest fun _ _ _ _ _ _ us hl => match us, hl with | [_, _, _], _ => rfl
  obtain ⟨fd_wheel_back, F_wheel_back⟩ := c.def_ 5 (d := d_wheel_back) rfl
  have g_wheel_back := He.glo_ok X G (c.fact 5 (f := .glo "wheel_back") rfl)
  have b_wheel_back : L2.Binds K fd_wheel_back ["wheel", "whole"] [] := FunD.bindsN (ps := ["wheel", "whole"]) F_wheel_back fun _ _ _ _ _ _ us hl => match us, hl with | [_, _], _ => rfl
  obtain ⟨fd_show_number, F_show_number⟩ := c.def_ 6 (d := d_show_number) rfl
  have g_show_number := He.glo_ok X G (c.fact 6 (f := .glo "show_number") rfl)
  have b_show_number : L2.Binds K fd_show_number ["x"] [] := FunD.bindsN (ps := ["x"]) F_show_number fun _ _ _ _ _ _ us hl => match us, hl with | [_], _ => rfl
  obtain ⟨fd_is_row, F_is_row⟩ := c.def_ 7 (d := d_is_row) rfl
  have g_is_row := He.glo_ok X G (c.fact 7 (f := .glo "is_row") rfl)
  have b_is_row : L2.Binds K fd_is_row ["ground", "thing", "many"] [] := FunD.bindsN (ps := ["ground", "thing", "many"]) F_is_row fun _ _ _ _ _ _ us hl => match us, hl with | [_, _, _], _ => rfl
  obtain ⟨fd_is_table, F_is_table⟩ := c.def_ 8 (d := d_is_table) rfl
  have g_is_table := He.glo_ok X G (c.fact 8 (f := .glo "is_table") rfl)
  have b_is_table : L2.Binds K fd_is_table ["ground", "thing", "high", "wide"] [] := FunD.bindsN (ps := ["ground", "thing", "high", "wide"]) F_is_table fun _ _ _ _ _ _ us hl => match us, hl with | [_, _, _, _], _ => rfl
  obtain ⟨fd_whole_row, F_whole_row⟩ := c.def_ 9 (d := d_whole_row) rfl
  have g_whole_row := He.glo_ok X G (c.fact 9 (f := .glo "whole_row") rfl)
  have b_whole_row : L2.Binds K fd_whole_row ["row"] [] := FunD.bindsN (ps := ["row"]) F_whole_row fun _ _ _ _ _ _ us hl => match us, hl with | [_], _ => rfl
  obtain ⟨fd_turned, F_turned⟩ := c.def_ 10 (d := d_turned) rfl
  have g_turned := He.glo_ok X G (c.fact 10 (f := .glo "turned") rfl)
  have b_turned : L2.Binds K fd_turned ["table"] [] := FunD.bindsN (ps := ["table"]) F_turned fun _ _ _ _ _ _ us hl => match us, hl with | [_], _ => rfl
  obtain ⟨fd_determinant, F_determinant⟩ := c.def_ 11 (d := d_determinant) rfl
  have g_determinant := He.glo_ok X G (c.fact 11 (f := .glo "determinant") rfl)
  have b_determinant : L2.Binds K fd_determinant ["ground", "table"] [] := FunD.bindsN (ps := ["ground", "table"]) F_determinant fun _ _ _ _ _ _ us hl => match us, hl with | [_, _], _ => rfl
  obtain ⟨fd_whole_determinant, F_whole_determinant⟩ := c.def_ 12 (d := d_whole_determinant) rfl
  have g_whole_determinant := He.glo_ok X G (c.fact 12 (f := .glo "whole_determinant") rfl)
  have b_whole_determinant : L2.Binds K fd_whole_determinant ["rows"] [] := FunD.bindsN (ps := ["rows"]) F_whole_determinant fun _ _ _ _ _ _ us hl => match us, hl with | [_], _ => rfl
  obtain ⟨fd_smaller_row, F_smaller_row⟩ := c.def_ 13 (d := d_smaller_row) rfl
  have g_smaller_row := He.glo_ok X G (c.fact 13 (f := .glo "smaller_row") rfl)
  have b_smaller_row : L2.Binds K fd_smaller_row ["row", "head", "last"] [] := FunD.bindsN (ps := ["row", "head", "last"]) F_smaller_row fun _ _ _ _ _ _ us hl => match us, hl with | [_, _, _], _ => rfl
  obtain ⟨fd_head_place, F_head_place⟩ := c.def_ 14 (d := d_head_place) rfl
  have g_head_place := He.glo_ok X G (c.fact 14 (f := .glo "head_place") rfl)
  have b_head_place : L2.Binds K fd_head_place ["rows", "begin", "at"] [] := FunD.bindsN (ps := ["rows", "begin", "at"]) F_head_place fun _ _ _ _ _ _ us hl => match us, hl with | [_, _, _], _ => rfl
  obtain ⟨fd_show_row, F_show_row⟩ := c.def_ 15 (d := d_show_row) rfl
  have g_show_row := He.glo_ok X G (c.fact 15 (f := .glo "show_row") rfl)
  have b_show_row : L2.Binds K fd_show_row ["row"] [] := FunD.bindsN (ps := ["row"]) F_show_row fun _ _ _ _ _ _ us hl => match us, hl with | [_], _ => rfl
  obtain ⟨fd_show_table, F_show_table⟩ := c.def_ 16 (d := d_show_table) rfl
  have g_show_table := He.glo_ok X G (c.fact 16 (f := .glo "show_table") rfl)
  have b_show_table : L2.Binds K fd_show_table ["table"] [] := FunD.bindsN (ps := ["table"]) F_show_table fun _ _ _ _ _ _ us hl => match us, hl with | [_], _ => rfl
  obtain ⟨fd_is_form_table, F_is_form_table⟩ := c.def_ 17 (d := d_is_form_table) rfl
  have g_is_form_table := He.glo_ok X G (c.fact 17 (f := .glo "is_form_table") rfl)
  have b_is_form_table : L2.Binds K fd_is_form_table ["ground", "thing"] [] := FunD.bindsN (ps := ["ground", "thing"]) F_is_form_table fun _ _ _ _ _ _ us hl => match us, hl with | [_, _], _ => rfl
  obtain ⟨fd_read_form, F_read_form⟩ := c.def_ 18 (d := d_read_form) rfl
  have g_read_form := He.glo_ok X G (c.fact 18 (f := .glo "read_form") rfl)
  have b_read_form : L2.Binds K fd_read_form ["text"] [] := FunD.bindsN (ps := ["text"]) F_read_form fun _ _ _ _ _ _ us hl => match us, hl with | [_], _ => rfl
  obtain ⟨fd_form_or_none, F_form_or_none⟩ := c.def_ 19 (d := d_form_or_none) rfl
  have g_form_or_none := He.glo_ok X G (c.fact 19 (f := .glo "form_or_none") rfl)
  have b_form_or_none : L2.Binds K fd_form_or_none ["text"] [] := FunD.bindsN (ps := ["text"]) F_form_or_none fun _ _ _ _ _ _ us hl => match us, hl with | [_], _ => rfl
  obtain ⟨fd_table_parts, F_table_parts⟩ := c.def_ 20 (d := d_table_parts) rfl
  have g_table_parts := He.glo_ok X G (c.fact 20 (f := .glo "table_parts") rfl)
  have b_table_parts : L2.Binds K fd_table_parts ["text"] [] := FunD.bindsN (ps := ["text"]) F_table_parts fun _ _ _ _ _ _ us hl => match us, hl with | [_], _ => rfl
  obtain ⟨fd_row_parts, F_row_parts⟩ := c.def_ 21 (d := d_row_parts) rfl
  have g_row_parts := He.glo_ok X G (c.fact 21 (f := .glo "row_parts") rfl)
  have b_row_parts : L2.Binds K fd_row_parts ["text"] [] := FunD.bindsN (ps := ["text"]) F_row_parts fun _ _ _ _ _ _ us hl => match us, hl with | [_], _ => rfl
  obtain ⟨fd_number_part, F_number_part⟩ := c.def_ 22 (d := d_number_part) rfl
  have g_number_part := He.glo_ok X G (c.fact 22 (f := .glo "number_part") rfl)
  have b_number_part : L2.Binds K fd_number_part ["word"] [] := FunD.bindsN (ps := ["word"]) F_number_part fun _ _ _ _ _ _ us hl => match us, hl with | [_], _ => rfl
  obtain ⟨fd_are_figures, F_are_figures⟩ := c.def_ 23 (d := d_are_figures) rfl
  have g_are_figures := He.glo_ok X G (c.fact 23 (f := .glo "are_figures") rfl)
  have b_are_figures : L2.Binds K fd_are_figures ["text"] [] := FunD.bindsN (ps := ["text"]) F_are_figures fun _ _ _ _ _ _ us hl => match us, hl with | [_], _ => rfl
  obtain ⟨fd__law_bag, F__law_bag⟩ := c.def_ 24 (d := d__law_bag) rfl
  have g__law_bag := He.glo_ok X G (c.fact 24 (f := .glo "_law_bag") rfl)
  have b__law_bag : L2.Binds K fd__law_bag ["_law_script", "_law_at"] [] := FunD.bindsN (ps := ["_law_script", "_law_at"]) F__law_bag fun _ _ _ _ _ _ us hl => match us, hl with | [_, _], _ => rfl
  obtain ⟨fd__law_take, F__law_take⟩ := c.def_ 25 (d := d__law_take) rfl
  have g__law_take := He.glo_ok X G (c.fact 25 (f := .glo "_law_take") rfl)
  have b__law_take : L2.Binds K fd__law_take ["_law_bag_here", "_law_many"] [] := FunD.bindsN (ps := ["_law_bag_here", "_law_many"]) F__law_take fun _ _ _ _ _ _ us hl => match us, hl with | [_, _], _ => rfl
  obtain ⟨fd__law_shared, F__law_shared⟩ := c.def_ 26 (d := d__law_shared) rfl
  have g__law_shared := He.glo_ok X G (c.fact 26 (f := .glo "_law_shared") rfl)
  have b__law_shared : L2.Binds K fd__law_shared ["_law_one", "_law_other"] [] := FunD.bindsN (ps := ["_law_one", "_law_other"]) F__law_shared fun _ _ _ _ _ _ us hl => match us, hl with | [_, _], _ => rfl
  obtain ⟨fd__law_low, F__law_low⟩ := c.def_ 27 (d := d__law_low) rfl
  have g__law_low := He.glo_ok X G (c.fact 27 (f := .glo "_law_low") rfl)
  have b__law_low : L2.Binds K fd__law_low ["_law_g", "_law_up", "_law_down"] [] := FunD.bindsN (ps := ["_law_g", "_law_up", "_law_down"]) F__law_low fun _ _ _ _ _ _ us hl => match us, hl with | [_, _, _], _ => rfl
  obtain ⟨fd__law_plus, F__law_plus⟩ := c.def_ 28 (d := d__law_plus) rfl
  have g__law_plus := He.glo_ok X G (c.fact 28 (f := .glo "_law_plus") rfl)
  have b__law_plus : L2.Binds K fd__law_plus ["_law_g", "_law_x", "_law_y"] [] := FunD.bindsN (ps := ["_law_g", "_law_x", "_law_y"]) F__law_plus fun _ _ _ _ _ _ us hl => match us, hl with | [_, _, _], _ => rfl
  obtain ⟨fd__law_times, F__law_times⟩ := c.def_ 29 (d := d__law_times) rfl
  have g__law_times := He.glo_ok X G (c.fact 29 (f := .glo "_law_times") rfl)
  have b__law_times : L2.Binds K fd__law_times ["_law_g", "_law_x", "_law_y"] [] := FunD.bindsN (ps := ["_law_g", "_law_x", "_law_y"]) F__law_times fun _ _ _ _ _ _ us hl => match us, hl with | [_, _, _], _ => rfl
  obtain ⟨fd__law_minus, F__law_minus⟩ := c.def_ 30 (d := d__law_minus) rfl
  have g__law_minus := He.glo_ok X G (c.fact 30 (f := .glo "_law_minus") rfl)
  have b__law_minus : L2.Binds K fd__law_minus ["_law_g", "_law_x"] [] := FunD.bindsN (ps := ["_law_g", "_law_x"]) F__law_minus fun _ _ _ _ _ _ us hl => match us, hl with | [_, _], _ => rfl
  obtain ⟨fd__law_scaled, F__law_scaled⟩ := c.def_ 31 (d := d__law_scaled) rfl
  have g__law_scaled := He.glo_ok X G (c.fact 31 (f := .glo "_law_scaled") rfl)
  have b__law_scaled : L2.Binds K fd__law_scaled ["_law_g", "_law_row", "_law_x"] [] := FunD.bindsN (ps := ["_law_g", "_law_row", "_law_x"]) F__law_scaled fun _ _ _ _ _ _ us hl => match us, hl with | [_, _, _], _ => rfl
  obtain ⟨fd__law_added, F__law_added⟩ := c.def_ 32 (d := d__law_added) rfl
  have g__law_added := He.glo_ok X G (c.fact 32 (f := .glo "_law_added") rfl)
  have b__law_added : L2.Binds K fd__law_added ["_law_g", "_law_row", "_law_other"] [] := FunD.bindsN (ps := ["_law_g", "_law_row", "_law_other"]) F__law_added fun _ _ _ _ _ _ us hl => match us, hl with | [_, _, _], _ => rfl
  obtain ⟨fd__law_through, F__law_through⟩ := c.def_ 33 (d := d__law_through) rfl
  have g__law_through := He.glo_ok X G (c.fact 33 (f := .glo "_law_through") rfl)
  have b__law_through : L2.Binds K fd__law_through ["_law_g", "_law_row", "_law_table"] [] := FunD.bindsN (ps := ["_law_g", "_law_row", "_law_table"]) F__law_through fun _ _ _ _ _ _ us hl => match us, hl with | [_, _, _], _ => rfl
  obtain ⟨fd__law_product, F__law_product⟩ := c.def_ 34 (d := d__law_product) rfl
  have g__law_product := He.glo_ok X G (c.fact 34 (f := .glo "_law_product") rfl)
  have b__law_product : L2.Binds K fd__law_product ["_law_g", "_law_one", "_law_other"] [] := FunD.bindsN (ps := ["_law_g", "_law_one", "_law_other"]) F__law_product fun _ _ _ _ _ _ us hl => match us, hl with | [_, _, _], _ => rfl
  obtain ⟨fd__law_turned, F__law_turned⟩ := c.def_ 35 (d := d__law_turned) rfl
  have g__law_turned := He.glo_ok X G (c.fact 35 (f := .glo "_law_turned") rfl)
  have b__law_turned : L2.Binds K fd__law_turned ["_law_table"] [] := FunD.bindsN (ps := ["_law_table"]) F__law_turned fun _ _ _ _ _ _ us hl => match us, hl with | [_], _ => rfl
  obtain ⟨fd__law_ones, F__law_ones⟩ := c.def_ 36 (d := d__law_ones) rfl
  have g__law_ones := He.glo_ok X G (c.fact 36 (f := .glo "_law_ones") rfl)
  have b__law_ones : L2.Binds K fd__law_ones ["_law_many"] [] := FunD.bindsN (ps := ["_law_many"]) F__law_ones fun _ _ _ _ _ _ us hl => match us, hl with | [_], _ => rfl
  obtain ⟨fd__law_ground, F__law_ground⟩ := c.def_ 37 (d := d__law_ground) rfl
  have g__law_ground := He.glo_ok X G (c.fact 37 (f := .glo "_law_ground") rfl)
  have b__law_ground : L2.Binds K fd__law_ground ["_law_bag_here"] [] := FunD.bindsN (ps := ["_law_bag_here"]) F__law_ground fun _ _ _ _ _ _ us hl => match us, hl with | [_], _ => rfl
  obtain ⟨fd__law_number, F__law_number⟩ := c.def_ 38 (d := d__law_number) rfl
  have g__law_number := He.glo_ok X G (c.fact 38 (f := .glo "_law_number") rfl)
  have b__law_number : L2.Binds K fd__law_number ["_law_bag_here", "_law_g"] [] := FunD.bindsN (ps := ["_law_bag_here", "_law_g"]) F__law_number fun _ _ _ _ _ _ us hl => match us, hl with | [_, _], _ => rfl
  obtain ⟨fd__law_other_than_nought, F__law_other_than_nought⟩ := c.def_ 39 (d := d__law_other_than_nought) rfl
  have g__law_other_than_nought := He.glo_ok X G (c.fact 39 (f := .glo "_law_other_than_nought") rfl)
  have b__law_other_than_nought : L2.Binds K fd__law_other_than_nought ["_law_bag_here", "_law_g"] [] := FunD.bindsN (ps := ["_law_bag_here", "_law_g"]) F__law_other_than_nought fun _ _ _ _ _ _ us hl => match us, hl with | [_, _], _ => rfl
  obtain ⟨fd__law_letters, F__law_letters⟩ := c.def_ 40 (d := d__law_letters) rfl
  have g__law_letters := He.glo_ok X G (c.fact 40 (f := .glo "_law_letters") rfl)
  have b__law_letters : L2.Binds K fd__law_letters ["_law_bag_here", "_law_g"] [] := FunD.bindsN (ps := ["_law_bag_here", "_law_g"]) F__law_letters fun _ _ _ _ _ _ us hl => match us, hl with | [_, _], _ => rfl
  obtain ⟨fd__law_changed, F__law_changed⟩ := c.def_ 41 (d := d__law_changed) rfl
  have g__law_changed := He.glo_ok X G (c.fact 41 (f := .glo "_law_changed") rfl)
  have b__law_changed : L2.Binds K fd__law_changed ["_law_bag_here", "_law_g", "_law_table"] [] := FunD.bindsN (ps := ["_law_bag_here", "_law_g", "_law_table"]) F__law_changed fun _ _ _ _ _ _ us hl => match us, hl with | [_, _, _], _ => rfl
  obtain ⟨fd__law_form, F__law_form⟩ := c.def_ 42 (d := d__law_form) rfl
  have g__law_form := He.glo_ok X G (c.fact 42 (f := .glo "_law_form") rfl)
  have b__law_form : L2.Binds K fd__law_form ["_law_bag_here", "_law_g", "_law_many"] [] := FunD.bindsN (ps := ["_law_bag_here", "_law_g", "_law_many"]) F__law_form fun _ _ _ _ _ _ us hl => match us, hl with | [_, _, _], _ => rfl
  obtain ⟨fd__law_number_text, F__law_number_text⟩ := c.def_ 43 (d := d__law_number_text) rfl
  have g__law_number_text := He.glo_ok X G (c.fact 43 (f := .glo "_law_number_text") rfl)
  have b__law_number_text : L2.Binds K fd__law_number_text ["_law_x"] [] := FunD.bindsN (ps := ["_law_x"]) F__law_number_text fun _ _ _ _ _ _ us hl => match us, hl with | [_], _ => rfl
  obtain ⟨fd__law_row_text, F__law_row_text⟩ := c.def_ 44 (d := d__law_row_text) rfl
  have g__law_row_text := He.glo_ok X G (c.fact 44 (f := .glo "_law_row_text") rfl)
  have b__law_row_text : L2.Binds K fd__law_row_text ["_law_row"] [] := FunD.bindsN (ps := ["_law_row"]) F__law_row_text fun _ _ _ _ _ _ us hl => match us, hl with | [_], _ => rfl
  obtain ⟨fd__law_table_text, F__law_table_text⟩ := c.def_ 45 (d := d__law_table_text) rfl
  have g__law_table_text := He.glo_ok X G (c.fact 45 (f := .glo "_law_table_text") rfl)
  have b__law_table_text : L2.Binds K fd__law_table_text ["_law_table"] [] := FunD.bindsN (ps := ["_law_table"]) F__law_table_text fun _ _ _ _ _ _ us hl => match us, hl with | [_], _ => rfl
  obtain ⟨fd__law_form_text, F__law_form_text⟩ := c.def_ 46 (d := d__law_form_text) rfl
  have g__law_form_text := He.glo_ok X G (c.fact 46 (f := .glo "_law_form_text") rfl)
  have b__law_form_text : L2.Binds K fd__law_form_text ["_law_g", "_law_table"] [] := FunD.bindsN (ps := ["_law_g", "_law_table"]) F__law_form_text fun _ _ _ _ _ _ us hl => match us, hl with | [_, _], _ => rfl
  obtain ⟨fd__law_wide_form, F__law_wide_form⟩ := c.def_ 47 (d := d__law_wide_form) rfl
  have g__law_wide_form := He.glo_ok X G (c.fact 47 (f := .glo "_law_wide_form") rfl)
  have b__law_wide_form : L2.Binds K fd__law_wide_form ["_law_bag_here", "_law_g", "_law_table"] [] := FunD.bindsN (ps := ["_law_bag_here", "_law_g", "_law_table"]) F__law_wide_form fun _ _ _ _ _ _ us hl => match us, hl with | [_, _, _], _ => rfl
  obtain ⟨fd__law_is_told, F__law_is_told⟩ := c.def_ 48 (d := d__law_is_told) rfl
  have g__law_is_told := He.glo_ok X G (c.fact 48 (f := .glo "_law_is_told") rfl)
  have b__law_is_told : L2.Binds K fd__law_is_told ["_law_g", "_law_table", "_law_form_here"] [] := FunD.bindsN (ps := ["_law_g", "_law_table", "_law_form_here"]) F__law_is_told fun _ _ _ _ _ _ us hl => match us, hl with | [_, _, _], _ => rfl
  obtain ⟨fd_law, F_law⟩ := c.def_ 49 (d := d_law) rfl
  have g_law := He.glo_ok X G (c.fact 49 (f := .glo "law") rfl)
  obtain ⟨fd_Form___init__, F_Form___init__⟩ := c.def_ 50 (d := d_Form___init__) rfl
  obtain ⟨ds_Form___init__, hd_Form___init__, bd_Form___init__⟩ := FunD.binds1 (ps := ["self", "table", "ground"]) F_Form___init__ 2 0 (fun e => nomatch (show ([.int 0] : List V) = [] from e)) rfl fun T kV doc pm an cdv ct us its hu hi => match us, hu, its, hi with | [_, _], _, [_], _ => ⟨_, rfl, rfl⟩
  have b_Form___init__ : L2.Binds K fd_Form___init__ ["self", "table", "ground"] [] := bnd_of (ps := ["self", "table", "ground"]) F_Form___init__ 3 (fun e => nomatch (show ([.int 0] : List V) = [] from e)) rfl fun _ _ _ _ _ _ _ us its hu hi => match us, hu, its, hi with | [_, _, _], _, [_], _ => ⟨_, rfl, rfl⟩
  have kb_Form_1_ground : L2.KBn K fd_Form___init__ ["self", "table", "ground"] 2 ["ground"] (fun us ws => us ++ ws) (fun us ws => us ++ ws) := kbn_of (ps := ["self", "table", "ground"]) F_Form___init__ (fun e => nomatch (show ([.int 0] : List V) = [] from e)) (fun _ _ _ _ _ _ _ us ws its l1 l2 l3 => match us, l1, ws, l2, its, l3 with | [_, _], _, [_], _, [_], _ => ⟨_, rfl, rfl⟩) (fun r1 r2 => r1.append r2)
  obtain ⟨fd_Form___eq__, F_Form___eq__⟩ := c.def_ 51 (d := d_Form___eq__) rfl
  have b_Form___eq__ : L2.Binds K fd_Form___eq__ ["self", "other"] [] := FunD.bindsN (ps := ["self", "other"]) F_Form___eq__ fun _ _ _ _ _ _ us hl => match us, hl with | [_, _], _ => rfl
  obtain ⟨fd_Form___len__, F_Form___len__⟩ := c.def_ 52 (d := d_Form___len__) rfl
  have b_Form___len__ : L2.Binds K fd_Form___len__ ["self"] [] := FunD.bindsN (ps := ["self"]) F_Form___len__ fun _ _ _ _ _ _ us hl => match us, hl with | [_], _ => rfl
  obtain ⟨fd_Form___str__, F_Form___str__⟩ := c.def_ 53 (d := d_Form___str__) rfl
  have b_Form___str__ : L2.Binds K fd_Form___str__ ["self"] [] := FunD.bindsN (ps := ["self"]) F_Form___str__ fun _ _ _ _ _ _ us hl => match us, hl with | [_], _ => rfl
  obtain ⟨fd_Form___repr__, F_Form___repr__⟩ := c.def_ 54 (d := d_Form___repr__) rfl
  have b_Form___repr__ : L2.Binds K fd_Form___repr__ ["self"] [] := FunD.bindsN (ps := ["self"]) F_Form___repr__ fun _ _ _ _ _ _ us hl => match us, hl with | [_], _ => rfl
  have m_isinstance := He.free_ok X G (c.fact 50 (f := .free "isinstance") rfl)
  have m_int := He.free_ok X G (c.fact 51 (f := .free "int") rfl)
  have m_bool := He.free_ok X G (c.fact 52 (f := .free "bool") rfl)
  have m_abs := He.free_ok X G (c.fact 53 (f := .free "abs") rfl)
  have m_tuple := He.free_ok X G (c.fact 54 (f := .free "tuple") rfl)
  have m_len := He.free_ok X G (c.fact 55 (f := .free "len") rfl)
  have m_str := He.free_ok X G (c.fact 56 (f := .free "str") rfl)
  have m_all := He.free_ok X G (c.fact 57 (f := .free "all") rfl)
  have m_range := He.free_ok X G (c.fact 58 (f := .free "range") rfl)
  have m_zip := He.free_ok X G (c.fact 59 (f := .free "zip") rfl)
  have m_list := He.free_ok X G (c.fact 60 (f := .free "list") rfl)
  have m_repr := He.free_ok X G (c.fact 61 (f := .free "repr") rfl)
  have m_max := He.free_ok X G (c.fact 62 (f := .free "max") rfl)
  have m_min := He.free_ok X G (c.fact 63 (f := .free "min") rfl)
  obtain ⟨t_MOST_LETTERS, mg_MOST_LETTERS⟩ := He.int_ok X G (c.fact 66 (f := .int "MOST_LETTERS" 5) rfl)
  obtain ⟨t_MOST_LETTERS_ON_A_WHEEL, mg_MOST_LETTERS_ON_A_WHEEL⟩ := He.int_ok X G (c.fact 67 (f := .int "MOST_LETTERS_ON_A_WHEEL" 4) rfl)
  obtain ⟨t_MOST_FIGURES, mg_MOST_FIGURES⟩ := He.int_ok X G (c.fact 68 (f := .int "MOST_FIGURES" 600) rfl)
  obtain ⟨cm6, ce6⟩ := He.ba cm
  obtain ⟨cm5, ce5⟩ := He.ba cm6
  obtain ⟨cm4, ce4⟩ := He.ba cm5
  obtain ⟨cm3, ce3⟩ := He.ba cm4
  obtain ⟨cm2, ce2⟩ := He.ba cm3
  obtain ⟨cm1, ce1⟩ := He.ba cm2
  have mg_GROUNDS := He.glo_ok X G (c.fact 64 (f := .glo "GROUNDS") rfl)
  have gr_GROUNDS := fun H : Hp => He.tupB_ok (K := K) (x := "GROUNDS") (vs := [.int 0, .int 3, .int 5, .int 7, .int 11, .int 13]) cm1 H
  have mg_WHEELS := He.glo_ok X G (c.fact 65 (f := .glo "WHEELS") rfl)
  have gr_WHEELS : DicT K w (He.ga K "WHEELS") [("3", 3), ("5", 5), ("7", 7), ("11", 11), ("13", 13)] := dicT_of (List.cons.inj (congrArg (fun z : He.AlT => z.2) c2.t)).1 (by exact ce6)
  have gi_Form := gc_Form
  have IC_Form := insB_ok (x := "Form") CF.c ce1
  have EC_Form := eqB_ok (x := "Form") ce2
  have LC_Form := lenB_ok (x := "Form") ce3
  have SC_Form := strB_ok (x := "Form") ce4
  have RC_Form := reprB_ok (x := "Form") ce5
  have e := hfa.symm.trans g_law
  cases e
  have b := FunD.bindsA (ps := ["_law_script"]) F_law fun _ _ _ _ _ _ us hl => match us, hl with | [_], _ => rfl
  refine ⟨fd_law, fun s v => b s [v] rfl, fun base _ _ hTB => ?_⟩
  have G_is_whole : FnOk PP w K mg base CX0 1 _ fd_is_whole ["thing"] (sp_is_whole K) := ok_is_whole F_is_whole m_isinstance m_int m_bool
  have G_common_divisor : FnOk PP w K mg base CX0 1 _ fd_common_divisor ["a", "b"] (sp_common_divisor K) := ok_common_divisor F_common_divisor m_abs
  have G_wheel_back : FnOk PP w K mg base CX0 1 _ fd_wheel_back ["wheel", "whole"] (sp_wheel_back K) := ok_wheel_back F_wheel_back
  have G_show_number : FnOk PP w K mg base CX0 1 _ fd_show_number ["x"] (sp_show_number K) := ok_show_number F_show_number m_str
  have G_turned : FnOk PP w K mg base CX0 1 _ fd_turned ["table"] (sp_turned K) := ok_turned F_turned m_tuple m_range m_len
  have G_smaller_row : FnOk PP w K mg base CX0 1 _ fd_smaller_row ["row", "head", "last"] (sp_smaller_row K) := ok_smaller_row F_smaller_row m_range m_len
  have G_head_place : FnOk PP w K mg base CX0 1 _ fd_head_place ["rows", "begin", "at"] (sp_head_place K) := ok_head_place F_head_place m_range m_len
  have G_Form___eq__ : FnOk PP w K mg base CX0 1 _ fd_Form___eq__ ["self", "other"] (sp_Form___eq__ K) := ok_Form___eq__ F_Form___eq__ gi_Form IC_Form CF m_isinstance
  have G_Form___len__ : FnOk PP w K mg base CX0 1 _ fd_Form___len__ ["self"] (sp_Form___len__ K) := ok_Form___len__ F_Form___len__ CF m_len
  have G_are_figures : FnOk PP w K mg base CX0 1 _ fd_are_figures ["text"] (sp_are_figures K) := ok_are_figures F_are_figures mg_MOST_FIGURES m_len
  have G__law_bag : FnOk PP w K mg base CX0 1 _ fd__law_bag ["_law_script", "_law_at"] (sp__law_bag K) := ok__law_bag F__law_bag m_len m_abs
  have G__law_take : FnOk PP w K mg base CX0 1 _ fd__law_take ["_law_bag_here", "_law_many"] (sp__law_take K) := ok__law_take F__law_take
  have G__law_shared : FnOk PP w K mg base CX0 1 _ fd__law_shared ["_law_one", "_law_other"] (sp__law_shared K) := ok__law_shared F__law_shared m_abs
  have G__law_turned : FnOk PP w K mg base CX0 1 _ fd__law_turned ["_law_table"] (sp__law_turned K) := ok__law_turned F__law_turned m_tuple m_range m_len
  have G__law_ones : FnOk PP w K mg base CX0 1 _ fd__law_ones ["_law_many"] (sp__law_ones K) := ok__law_ones F__law_ones m_tuple m_range m_int
  have G__law_number_text : FnOk PP w K mg base CX0 1 _ fd__law_number_text ["_law_x"] (sp__law_number_text K) := ok__law_number_text F__law_number_text m_str
  have G_is_ground : FnOk PP w K mg base CX0 2 _ fd_is_ground ["thing"] (sp_is_ground K) := ok_is_ground F_is_ground F_is_whole b_is_whole g_is_whole G_is_whole mg_GROUNDS gr_GROUNDS
  have G_is_number : FnOk PP w K mg base CX0 2 _ fd_is_number ["ground", "thing"] (sp_is_number K) := ok_is_number F_is_number F_is_whole b_is_whole g_is_whole G_is_whole F_common_divisor b_common_divisor g_common_divisor G_common_divisor m_isinstance m_tuple m_len
  have G_lowest : FnOk PP w K mg base CX0 2 _ fd_lowest ["ground", "top", "bottom"] (sp_lowest K) := ok_lowest F_lowest F_common_divisor b_common_divisor g_common_divisor G_common_divisor F_wheel_back b_wheel_back g_wheel_back G_wheel_back
  have G_whole_row : FnOk PP w K mg base CX0 2 _ fd_whole_row ["row"] (sp_whole_row K) := ok_whole_row F_whole_row F_common_divisor b_common_divisor g_common_divisor G_common_divisor
  have G_whole_determinant : FnOk PP w K mg base CX0 2 _ fd_whole_determinant ["rows"] (sp_whole_determinant K) := ok_whole_determinant F_whole_determinant F_head_place b_head_place g_head_place G_head_place F_smaller_row b_smaller_row g_smaller_row G_smaller_row m_len
  have G_show_row : FnOk PP w K mg base CX0 2 _ fd_show_row ["row"] (sp_show_row K) := ok_show_row F_show_row F_show_number b_show_number g_show_number G_show_number
  have G_number_part : FnOk PP w K mg base CX0 2 _ fd_number_part ["word"] (sp_number_part K) := ok_number_part F_number_part F_show_number b_show_number g_show_number G_show_number F_are_figures b_are_figures g_are_figures G_are_figures m_int
  have G__law_low : FnOk PP w K mg base CX0 2 _ fd__law_low ["_law_g", "_law_up", "_law_down"] (sp__law_low K) := ok__law_low F__law_low F__law_shared b__law_shared g__law_shared G__law_shared m_range m_int
  have G__law_ground : FnOk PP w K mg base CX0 2 _ fd__law_ground ["_law_bag_here"] (sp__law_ground K) := ok__law_ground F__law_ground F__law_take b__law_take g__law_take G__law_take
  have G__law_letters : FnOk PP w K mg base CX0 2 _ fd__law_letters ["_law_bag_here", "_law_g"] (sp__law_letters K) := ok__law_letters F__law_letters F__law_take b__law_take g__law_take G__law_take m_int
  have G__law_row_text : FnOk PP w K mg base CX0 2 _ fd__law_row_text ["_law_row"] (sp__law_row_text K) := ok__law_row_text F__law_row_text F__law_number_text b__law_number_text g__law_number_text G__law_number_text
  have G_is_row : FnOk PP w K mg base CX0 3 _ fd_is_row ["ground", "thing", "many"] (sp_is_row K) := ok_is_row F_is_row F_is_number b_is_number g_is_number G_is_number m_all m_isinstance m_tuple m_len
  have G_determinant : FnOk PP w K mg base CX0 3 _ fd_determinant ["ground", "table"] (sp_determinant K) := ok_determinant F_determinant F_lowest b_lowest g_lowest G_lowest F_whole_row b_whole_row g_whole_row G_whole_row F_whole_determinant b_whole_determinant g_whole_determinant G_whole_determinant
  have G_show_table : FnOk PP w K mg base CX0 3 _ fd_show_table ["table"] (sp_show_table K) := ok_show_table F_show_table F_show_row b_show_row g_show_row G_show_row
  have G_row_parts : FnOk PP w K mg base CX0 3 _ fd_row_parts ["text"] (sp_row_parts K) := ok_row_parts F_row_parts F_number_part b_number_part g_number_part G_number_part m_tuple
  have G__law_plus : FnOk PP w K mg base CX0 3 _ fd__law_plus ["_law_g", "_law_x", "_law_y"] (sp__law_plus K) := ok__law_plus F__law_plus F__law_low b__law_low g__law_low G__law_low
  have G__law_times : FnOk PP w K mg base CX0 3 _ fd__law_times ["_law_g", "_law_x", "_law_y"] (sp__law_times K) := ok__law_times F__law_times F__law_low b__law_low g__law_low G__law_low
  have G__law_minus : FnOk PP w K mg base CX0 3 _ fd__law_minus ["_law_g", "_law_x"] (sp__law_minus K) := ok__law_minus F__law_minus F__law_low b__law_low g__law_low G__law_low
  have G__law_number : FnOk PP w K mg base CX0 3 _ fd__law_number ["_law_bag_here", "_law_g"] (sp__law_number K) := ok__law_number F__law_number F__law_low b__law_low g__law_low G__law_low F__law_take b__law_take g__law_take G__law_take
  have G__law_table_text : FnOk PP w K mg base CX0 3 _ fd__law_table_text ["_law_table"] (sp__law_table_text K) := ok__law_table_text F__law_table_text F__law_row_text b__law_row_text g__law_row_text G__law_row_text
  have G_is_table : FnOk PP w K mg base CX0 4 _ fd_is_table ["ground", "thing", "high", "wide"] (sp_is_table K) := ok_is_table F_is_table F_is_row b_is_row g_is_row G_is_row m_all m_isinstance m_tuple m_len
  have G_Form___str__ : FnOk PP w K mg base CX0 4 _ fd_Form___str__ ["self"] (sp_Form___str__ K) := ok_Form___str__ F_Form___str__ F_show_table b_show_table g_show_table G_show_table CF
  have G_table_parts : FnOk PP w K mg base CX0 4 _ fd_table_parts ["text"] (sp_table_parts K) := ok_table_parts F_table_parts F_row_parts b_row_parts g_row_parts G_row_parts m_tuple
  have G__law_scaled : FnOk PP w K mg base CX0 4 _ fd__law_scaled ["_law_g", "_law_row", "_law_x"] (sp__law_scaled K) := ok__law_scaled F__law_scaled F__law_times b__law_times g__law_times G__law_times m_tuple
  have G__law_added : FnOk PP w K mg base CX0 4 _ fd__law_added ["_law_g", "_law_row", "_law_other"] (sp__law_added K) := ok__law_added F__law_added F__law_plus b__law_plus g__law_plus G__law_plus m_tuple m_zip
  have G__law_other_than_nought : FnOk PP w K mg base CX0 4 _ fd__law_other_than_nought ["_law_bag_here", "_law_g"] (sp__law_other_than_nought K) := ok__law_other_than_nought F__law_other_than_nought F__law_number b__law_number g__law_number G__law_number m_int
  have G__law_form_text : FnOk PP w K mg base CX0 4 _ fd__law_form_text ["_law_g", "_law_table"] (sp__law_form_text K) := ok__law_form_text F__law_form_text F__law_table_text b__law_table_text g__law_table_text G__law_table_text m_str
  have G_is_form_table : FnOk PP w K mg base CX0 5 _ fd_is_form_table ["ground", "thing"] (sp_is_form_table K) := ok_is_form_table F_is_form_table F_is_table b_is_table g_is_table G_is_table F_turned b_turned g_turned G_turned F_determinant b_determinant g_determinant G_determinant mg_MOST_LETTERS mg_MOST_LETTERS_ON_A_WHEEL m_len m_isinstance m_tuple
  have G__law_through : FnOk PP w K mg base CX0 5 _ fd__law_through ["_law_g", "_law_row", "_law_table"] (sp__law_through K) := ok__law_through F__law_through F__law_added b__law_added g__law_added G__law_added F__law_scaled b__law_scaled g__law_scaled G__law_scaled m_tuple m_zip m_len
  have G__law_wide_form : FnOk PP w K mg base CX0 5 _ fd__law_wide_form ["_law_bag_here", "_law_g", "_law_table"] (sp__law_wide_form K) := ok__law_wide_form F__law_wide_form F__law_low b__law_low g__law_low G__law_low F__law_take b__law_take g__law_take G__law_take F__law_scaled b__law_scaled g__law_scaled G__law_scaled m_tuple
  have G_Form___init__ : FnOk PP w K mg base CX0 6 _ fd_Form___init__ ["self", "table", "ground"] (sp_Form___init__ K) := ok_Form___init__ F_Form___init__ F_is_ground b_is_ground g_is_ground G_is_ground F_is_form_table b_is_form_table g_is_form_table G_is_form_table CF
  have G__law_product : FnOk PP w K mg base CX0 6 _ fd__law_product ["_law_g", "_law_one", "_law_other"] (sp__law_product K) := ok__law_product F__law_product F__law_through b__law_through g__law_through G__law_through m_tuple
  have G_Form___repr__ : FnOk PP w K mg base CX0 7 _ fd_Form___repr__ ["self"] (sp_Form___repr__ K) := ok_Form___repr__ F_Form___repr__ F_Form___str__ SC_Form b_Form___str__ G_Form___str__ m_str
  have G__law_changed : FnOk PP w K mg base CX0 7 _ fd__law_changed ["_law_bag_here", "_law_g", "_law_table"] (sp__law_changed K) := ok__law_changed F__law_changed F__law_take b__law_take g__law_take G__law_take F__law_product b__law_product g__law_product G__law_product F__law_turned b__law_turned g__law_turned G__law_turned F__law_minus b__law_minus g__law_minus G__law_minus F__law_low b__law_low g__law_low G__law_low F__law_ones b__law_ones g__law_ones G__law_ones m_len m_range m_tuple m_list
  have G_form_or_none : FnOk PP w K mg base CX0 8 _ fd_form_or_none ["text"] (sp_form_or_none K) := ok_form_or_none F_form_or_none F_table_parts b_table_parts g_table_parts G_table_parts F_is_form_table b_is_form_table g_is_form_table G_is_form_table F_Form___init__ M_Form gc_Form b_Form___init__ G_Form___init__ mg_WHEELS gr_WHEELS
  have G__law_form : FnOk PP w K mg base CX0 8 _ fd__law_form ["_law_bag_here", "_law_g", "_law_many"] (sp__law_form K) := ok__law_form F__law_form F__law_take b__law_take g__law_take G__law_take F__law_minus b__law_minus g__law_minus G__law_minus F__law_changed b__law_changed g__law_changed G__law_changed F__law_other_than_nought b__law_other_than_nought g__law_other_than_nought G__law_other_than_nought m_tuple m_range
  have G_read_form : FnOk PP w K mg base CX0 9 _ fd_read_form ["text"] (sp_read_form K) := ok_read_form F_read_form F_form_or_none b_form_or_none g_form_or_none G_form_or_none m_isinstance m_str
  have G__law_is_told : FnOk PP w K mg base CX0 10 _ fd__law_is_told ["_law_g", "_law_table", "_law_form_here"] (sp__law_is_told K) := ok__law_is_told F__law_is_told F__law_form_text b__law_form_text g__law_form_text G__law_form_text F_read_form b_read_form g_read_form G_read_form F_Form___eq__ EC_Form b_Form___eq__ G_Form___eq__ F_Form___len__ LC_Form b_Form___len__ G_Form___len__ F_Form___str__ SC_Form b_Form___str__ G_Form___str__ F_Form___repr__ RC_Form b_Form___repr__ G_Form___repr__ gi_Form IC_Form CF m_str m_repr m_isinstance m_len
  exact ok_law F_law F__law_bag b__law_bag g__law_bag G__law_bag F__law_ground b__law_ground g__law_ground G__law_ground F__law_wide_form b__law_wide_form g__law_wide_form G__law_wide_form F__law_form b__law_form g__law_form G__law_form F_read_form b_read_form g_read_form G_read_form F__law_letters b__law_letters g__law_letters G__law_letters F__law_is_told b__law_is_told g__law_is_told G__law_is_told F_Form___init__ M_Form gc_Form hd_Form___init__ bd_Form___init__ kb_Form_1_ground G_Form___init__ F_Form___eq__ EC_Form b_Form___eq__ G_Form___eq__ F_Form___str__ SC_Form b_Form___str__ G_Form___str__ m_range m_max m_all m_min m_str m_len

end Fm
open PySem PySem.W PySem.Calls PyProof.Rows
set_option maxHeartbeats 0 in
theorem PySem.Challenge.cw_fewmirrors_k57_forms_read_holds : PySem.Challenge.rw_fewmirrors_k57_forms_read.Holds := by
  refine Fm.e_open ?_
  refine HandSHeadRun.head_any (r := OpenLaw.row PySem.Challenge.rw_fewmirrors_k57_forms_read) (q := view (OpenLaw.row PySem.Challenge.rw_fewmirrors_k57_forms_read).prog [67]) (H := Fm.hk) (ob := Fm.ob) (M := 9000) (loose := Fm.loose) (d := HandSHeadRun.topDef (OpenLaw.row PySem.Challenge.rw_fewmirrors_k57_forms_read).prog 67) (kwd := []) Fm.ob_eq
    Fm.e_op (fun s => by kernel_rfl) Fm.run Fm.e_def Fm.e_the Fm.e_kw (by rfl) Fm.e_k1 Fm.e_ok Fm.e_hb ?hw ?hc
  case hw => w_witness2
  case hc =>
    refine LamX.walk_ofTsE (l := PySem.Challenge.rw_fewmirrors_k57_forms_read) (n := 63) (k := 11) (x := "_law_script") (CX := fun _ => L2.CX0) rfl (by decide) (by kernel_rfl) ⟨rfl, by decide, by decide⟩ ?F (fun _ _ _ _ _ z => z)
    intro w mg fa h Y G hmg0
    obtain ⟨K, KX, c⟩ := Y
    have hmg : mg ("law" : PySem.Str) = some (.ref fa) := by
      have e : (HandSHeadRun.topDef (OpenLaw.row PySem.Challenge.rw_fewmirrors_k57_forms_read).prog 67).name = ("law" : PySem.Str) := by kernel_rfl
      rw [← e]
      exact hmg0
    obtain ⟨fd, hb, hF⟩ := Fm.facts (w := w) KX G hmg c
    refine ⟨K, KX, fd, Fm.tf.map (He.cT K), Fm.sp_law K, fun p hp => ?_, fun p hp => ?_, fun p hp => ?_, hb, fun H a ns hl _ hH hS => ?_, fun base h1 h2 h3 => hF base h1 h2 h3⟩
    · obtain ⟨q, hq, rfl⟩ := List.mem_map.mp hp
      exact c.empty q hq
    · obtain ⟨q, hq, rfl⟩ := List.mem_map.mp hp
      exact c.out q hq
    · obtain ⟨q, hq, rfl⟩ := List.mem_map.mp hp
      exact codeHd_of_K KX (c.hd q hq)
    · exact ⟨a, ns, rfl, hS, fun _ => rfl⟩
