import PyProof.Rows.All
import Wide.All
import OpenK.AllK
import Wide.FinOn
import KE.KStateDown
import Lean
import HandS.ForMost
import HandS.Wide
import HandS.FStr
import HandS.IsInst
import HandS.Flow
import HandS.Style
import HandS.Zip
import HandS.Conv
import HandS.Defaults
import HandS.Walk
import HandS.More
import HandS.WordsExc
import HandS.Head0
import HandS.Head1
import HandS.Head2
import HandS.HeadEnd
import HandS.HeadHook1
import HandS.HeadHook2
import HandS.TupAny
import HandS.Hot
import HandS.Comp
import HandS.ExcCtx
import HandS.HotCalls
import HandS.TryMany
import HandS.ExcIs
import HandS.Lambda
import HandS.EndTab
import HandS.HeadHook3
import HandS.HeadHook4
import HandS.HeadWalk
import HandS.WideBits
import HandS.TryOnly
import HandS.ExcSuper
import HandS.ExcInit
import KE.KSuper
import HandS.ExcOwn
import HandS.CallSlots
import HandS.ExcField
import HandS.Codes
import HandS.Strs
import HandS.SetFor
import HandS.SortInts
import PyProof.Rows.SetFrom
import KE.GoesMore
import HandS.Iter
import HandS.MakeKw
import PySem.Challenge.RW_fewmirrors_k28_neighbours_exchanged
set_option Elab.async false
set_option linter.all false
set_option maxRecDepth 100000
set_option maxHeartbeats 4000000
namespace Fm
open PySem PySem.Spec PyProof.Rows L2
def CDivZ (_ j : Int) : Prop := j ≠ 0 ∧ j.natAbs.log2 < 9000
theorem op_fdivZ {X : Cx} : OpR X (binaryOp .FloorDiv) (rI CDivZ fun i j => .int (i.fdiv j)) := opI fun _ _ _ _ _ _ _ hc q => floordiv_int hc.1 q (.inl (PyProof.noPylong_of_log2 hc.2))
theorem divZ_small {i j : Int} (h : 0 < j) (h2 : j < 4294967296) : CDivZ i j := ⟨by omega, Nat.lt_of_lt_of_le (PySem.Flt.log2_lt_of (n := j.natAbs) (k := 32) (by decide) (by omega)) (by decide)⟩
theorem divZ_of {i j : Int} {b : Nat} (h : j ≠ 0) (hb : j.natAbs < 2 ^ b) (h0 : 0 < b) (h9 : b ≤ 9000) : CDivZ i j := ⟨h, Nat.lt_of_lt_of_le (PySem.Flt.log2_lt_of h0 hb) h9⟩
theorem fmod_pos (a : Int) {b : Int} (h : 0 < b) : a.fmod b = a % b := Int.fmod_eq_emod_of_nonneg a (by omega)
theorem fdiv_pos (a : Int) {b : Int} (h : 0 < b) : a.fdiv b = a / b := Int.fdiv_eq_ediv_of_nonneg a (by omega)
abbrev FnP (K : PySem.W.Frag) (x : Str) (st : Stmt) (f : Addr) (fd : FuncData) : Prop := FunD K x x (defArgs st) (defBody st) (defScope st) [] [] f fd
/-! ### steps of a reading -/
section
variable {K : PySem.W.Frag} {σ : L2.St} {H : Hp} {Q : VK} {ta tb tc te : TE} {t u : TS} {D : Ends} {g : TG} {i : Nat} {v x y : V} {c : TT} {r : R2} {cA cB : TT} {as : TA}
theorem w_var (h : σ[i]? = some (some v)) (q : Q v H) : tVar i σ H Q := ⟨v, h, q⟩
theorem w_c (q : Q v H) : tC v σ H Q := q
theorem w_seq (h : t { D with nx := u D } σ H) : tSeq t u D σ H := h
theorem w_next (h : D.nx σ H) : tNext D σ H := h
theorem w_asg (h : te σ H fun x H1 => g x σ H1 D.nx) : tAsg te g D σ H := h
theorem w_ret (h : te σ H D.rt) : tRet te D σ H := h
theorem w_drop (h : te σ H fun _ H1 => D.nx σ H1) : tDrop te D σ H := h
theorem w_ifs (h : c σ H fun b H1 => if b = true then t D σ H1 else u D σ H1) : tIfS c t u D σ H := h
theorem w_op (h : ta σ H fun x H1 => tb σ H1 fun y H2 => r x y H2 Q) : tOp r ta tb σ H Q := h
theorem w_un {r : V → Hp → VK → Prop} (h : ta σ H fun x H1 => r x H1 Q) : tUn r ta σ H Q := h
theorem w_name {R : L2.St → Hp → Prop} (h : R (σ.set i (some v)) H) : gName i v σ H R := h
theorem w_sub {to ti : TE} {ts : TSet} {R : L2.St → Hp → Prop} (h : to σ H fun o H1 => ti σ H1 fun i H2 => ts o i v H2 fun H3 => R σ H3) : gSub to ti ts v σ H R := h
theorem w_test {R : Bool → Hp → Prop} (h : te σ H fun x H' => ∃ k, x = .bl k ∧ R k H') : tTest te σ H R := h
theorem w_B {R : Bool → Hp → Prop} (h : te σ H fun x H' => ∃ k, x = .bl k ∧ R k H') : tB te σ H R := h
theorem w_exb {b : Bool} {R : Bool → Prop} (h : R b) : ∃ k, V.bl b = .bl k ∧ R k := ⟨b, rfl, h⟩
theorem w_and {R : Bool → Hp → Prop} (h : cA σ H fun c H1 => if c = true then cB σ H1 R else R false H1) : tAnd cA cB σ H R := h
theorem w_or {R : Bool → Hp → Prop} (h : cA σ H fun c H1 => if c = true then R true H1 else cB σ H1 R) : tOr cA cB σ H R := h
theorem w_not {R : Bool → Hp → Prop} (h : cA σ H fun c H1 => R (!c) H1) : tNot cA σ H R := h
theorem w_andV (h : ta σ H fun x H1 => ∃ c, x = .bl c ∧ if c = true then tb σ H1 Q else Q (.bl false) H1) : tAndV ta tb σ H Q := h
theorem w_orV (h : ta σ H fun x H1 => ∃ c, x = .bl c ∧ if c = true then Q (.bl true) H1 else tb σ H1 Q) : tOrV ta tb σ H Q := h
theorem w_notV (h : ta σ H fun x H1 => ∃ c, x = .bl c ∧ Q (.bl (!c)) H1) : tNotV ta σ H Q := h
theorem w_if (h : c σ H fun b H1 => if b = true then ta σ H1 Q else tb σ H1 Q) : tIf c ta tb σ H Q := h
theorem w_I0 {g : Int → Int → V} {a b : Int} (q : Q (g a b) H) : rI0 g (.int a) (.int b) H Q := ⟨a, b, rfl, rfl, q⟩
theorem w_I {C : Int → Int → Prop} {g : Int → Int → V} {a b : Int} (hc : C a b) (q : Q (g a b) H) : rI C g (.int a) (.int b) H Q := ⟨a, b, rfl, rfl, hc, q⟩
theorem w_U {g : Int → V} {a : Int} (q : Q (g a) H) : rU g (.int a) H Q := ⟨a, rfl, q⟩
theorem w_eqI {a b : Int} (q : Q (.bl (decide (a = b))) H) : rEq (.int a) (.int b) H Q := ⟨rfl, by
  have e : decide (V.int a = V.int b) = decide (a = b) := by
    by_cases h : a = b
    · rw [decide_eq_true h, decide_eq_true (by rw [h])]
    · rw [decide_eq_false h, decide_eq_false (fun z => h (V.int.inj z))]
  rw [e]
  exact q⟩
theorem w_neI {a b : Int} (q : Q (.bl (!decide (a = b))) H) : rNe (.int a) (.int b) H Q := ⟨rfl, by
  have e : decide (V.int a = V.int b) = decide (a = b) := by
    by_cases h : a = b
    · rw [decide_eq_true h, decide_eq_true (by rw [h])]
    · rw [decide_eq_false h, decide_eq_false (fun z => h (V.int.inj z))]
  rw [e]
  exact q⟩
theorem w_nil {R : List V → Hp → Prop} (h : R [] H) : tNil σ H R := h
theorem w_cons {R : List V → Hp → Prop} (h : ta σ H fun x H1 => as σ H1 fun xs H2 => R (x :: xs) H2) : tCons ta as σ H R := h
def NewO (o : HO) (H : Hp) (Q : VK) : Prop := ∀ p, H p = none → Q (.ref p) (upd H p o)
def NewS (mk : List V → HO) (xs : List V) (H : Hp) (Q : VK) : Prop := xs.length ≤ sizeLine ∧ NewO (mk xs) H Q
theorem w_tup (h : as σ H fun xs H1 => NewS .tup xs H1 Q) : tTup as σ H Q := h
theorem w_lst (h : as σ H fun xs H1 => NewS .lst xs H1 Q) : tLst as σ H Q := h
theorem w_for {wi : TI} {tb : TS} (hh : wi σ H fun it h1 => ∃ Inv : Nat → Nat → L2.St → Hp → Prop, (∃ left, Inv 0 left σ h1) ∧ ∀ turn left slots hp, Inv turn left slots hp →
    (it.stop turn hp ∧ D.nx slots hp) ∨ (it.go turn hp ∧ ∃ Nxt : L2.St → Hp → Prop, (∀ slots' hp', Nxt slots' hp' → ∃ left', left' < left ∧ Inv (turn + 1) left' slots' hp') ∧
      ∀ item hp', it.yld turn hp item hp' → g item slots hp' fun slots2 h2 => tb { D with nx := Nxt, ct := Nxt, bk := D.nx } slots2 h2)) : tFor wi g tb D σ H := hh
theorem w_rng1 {ta : TA} {R : It → Hp → Prop} (h : ta σ H fun vs H1 => ∃ j : Int, vs = [.int j] ∧ -(2 ^ 62) ≤ j ∧ j < 2 ^ 62 ∧ R (Itr 0 j.toNat) H1) : iRng1 ta σ H R := h
theorem same_upd {p : Addr} {o : HO} (h : H p = none) : Same H (upd H p o) := fun b x e => by
  rw [upd_ne (ne_of_none e h)]
  exact e
theorem w_new {mk : List V → HO} {xs : List V} (hz : xs.length ≤ 1000) (h : ∀ p H', H p = none → Same H H' → H' p = some (mk xs) → Q (.ref p) H') : NewS mk xs H Q := ⟨Nat.le_of_lt (small1000 hz), fun p hp => h p _ hp (same_upd hp) upd_same⟩
theorem w_newO {o : HO} (h : ∀ p H', H p = none → Same H H' → H' p = some o → Q (.ref p) H') : NewO o H Q := fun p hp => h p _ hp (same_upd hp) upd_same
theorem w_cb {r : List V → Hp → VK → Prop} (h : as σ H fun vs H1 => r vs H1 Q) : tCB r as σ H Q := h
theorem w_call {sp : Sp} {dvs : List V} {E : XK} (h : as σ H fun vs H1 => sp (vs ++ dvs) H1 Q E) : tCall sp dvs E as σ H Q := h
theorem w_ixL {p : Addr} {xs : List V} {i : Int} (h : H p = some (.lst xs)) (e : atI xs i = some v) (q : Q v H) : rIxL K (.ref p) (.int i) H Q := ⟨p, xs, i, v, rfl, rfl, SqL.of h, e, q⟩
theorem w_ixLs {p : Addr} {xs : List V} {i : Int} (h : SqL K H p xs) (e : atI xs i = some v) (q : Q v H) : rIxL K (.ref p) (.int i) H Q := ⟨p, xs, i, v, rfl, rfl, h, e, q⟩
theorem w_ixT {p : Addr} {xs : List V} {i : Int} (h : H p = some (.tup xs)) (e : atI xs i = some v) (q : Q v H) : rIxT K (.ref p) (.int i) H Q := ⟨p, xs, i, v, rfl, rfl, SqT.of h, e, q⟩
theorem w_setL {p : Addr} {xs : List V} {k : Int} {j : Nat} {R : Hp → Prop} (h : H p = some (.lst xs)) (e : ixN xs.length k = some j) (q : R (upd H p (.lst (xs.set j v)))) : rSetL (.ref p) (.int k) v H R := ⟨p, xs, k, j, rfl, rfl, h, e, q⟩
theorem w_par {i j : Nat} (h : as σ H fun vs H1 => ∃ v w, vs = [v, w] ∧ D.nx ((σ.set i (some v)).set j (some w)) H1) : tPar i j as D σ H := h
theorem w_ex2 {a b : V} {R : V → V → Prop} (h : R a b) : ∃ v w, [a, b] = [v, w] ∧ R v w := ⟨a, b, rfl, h⟩
theorem w_ite {p : Prop} [Decidable p] {A B : Prop} (h1 : p → A) (h2 : ¬ p → B) : if decide p = true then A else B := by
  by_cases h : p
  · rw [decide_eq_true h]; exact h1 h
  · rw [decide_eq_false h]; exact h2 h
theorem w_iteN {p : Prop} [Decidable p] {A B : Prop} (h1 : ¬ p → A) (h2 : p → B) : if (!decide p) = true then A else B := by
  by_cases h : p
  · rw [decide_eq_true h]; exact h2 h
  · rw [decide_eq_false h]; exact h1 h
theorem w_t {A B : Prop} (h : A) : if true = true then A else B := h
theorem w_f {A B : Prop} (h : B) : if false = true then A else B := h
end
section
variable {K : PySem.W.Frag} {σ : L2.St} {H : Hp} {Q : VK} {te : TE} {g : TG} {tt : TT} {vs : List Nat}
theorem w_lc {wi : TI} (hh : wi σ H fun it h1 => ∀ new, h1 new = none → ∃ Inv : Nat → Nat → Hp → Prop, (∃ left, Inv 0 left (upd h1 new (.lst []))) ∧ ∀ turn left hp, Inv turn left hp →
    (it.stop turn hp ∧ Q (.ref new) hp) ∨ (it.go turn hp ∧ ∃ Nxt : Hp → Prop, (∀ hp', Nxt hp' → ∃ left', left' < left ∧ Inv (turn + 1) left' hp') ∧
      ∀ item hp', it.yld turn hp item hp' → g item (wipe σ vs) hp' fun slots h2 => wipe slots vs = wipe σ vs ∧ tt slots h2 fun kept h3 =>
        if kept = true then te slots h3 fun made h4 => ∃ sofar, h4 new = some (.lst sofar) ∧ sofar.length < sizeLine ∧ Nxt (upd h4 new (.lst (sofar ++ [made]))) else Nxt h3)) : tLc wi g tt te vs σ H Q := hh
theorem w_yes {R : Bool → Hp → Prop} (h : R true H) : tYes σ H R := h
theorem w_zipA {ta : TA} {R : It → Hp → Prop} (h : ta σ H fun vs H1 => ∃ a b xs ys, vs = [.ref a, .ref b] ∧ ((SqL K H1 a xs ∧ SqL K H1 b ys ∧ R (Itz K a b) H1) ∨ (SqT K H1 a xs ∧ SqT K H1 b ys ∧ R (RZ.ItzT K a b) H1))) : RZ.iZipA K ta σ H R := h
theorem w_itup {tl : TE} {R : It → Hp → Prop} (h : tl σ H fun x H1 => ∃ a, x = .ref a ∧ (∃ xs, SqT K H1 a xs) ∧ R (Itt K a) H1) : iTup K tl σ H R := h
theorem w_ilist {tl : TE} {R : It → Hp → Prop} (h : tl σ H fun x H1 => ∃ a, x = .ref a ∧ (∃ xs, SqL K H1 a xs) ∧ R (Itl K a) H1) : iList K tl σ H R := h
theorem w_gtup {n : Nat} {t : TGs} {a : Addr} {xs : List V} {R : L2.St → Hp → Prop} (h : H a = some (.tup xs)) (hn : xs.length = n) (q : t xs σ H R) : gTup K n t (.ref a) σ H R := ⟨a, xs, rfl, SqT.of h, hn, q⟩
theorem w_gcons {t : TG} {u : TGs} {v : V} {r : List V} {R : L2.St → Hp → Prop} (h : t v σ H fun σ' H' => u r σ' H' R) : gCons t u (v :: r) σ H R := ⟨v, r, rfl, h⟩
theorem w_gnil {R : L2.St → Hp → Prop} (h : R σ H) : gNil [] σ H R := ⟨rfl, h⟩
end
theorem walk_zipT {K : PySem.W.Frag} {a b : Addr} {xs ys : List V} {n : Nat} (hn : n = min xs.length ys.length) : Walk (RZ.ItzT K a b) n (fun H => SqT K H a xs ∧ SqT K H b ys) (YPair (fun i => xs[i]?) (fun i => ys[i]?)) where
  goes := fun turn hp ht both => by
    have lx : turn < xs.length := by omega
    have ly : turn < ys.length := by omega
    exact ⟨xs, ys, _, _, both.1, both.2, List.getElem?_eq_getElem lx, List.getElem?_eq_getElem ly⟩
  stops := fun hp both => ⟨xs, ys, both.1, both.2, by omega⟩
  yields := fun turn hp v hp' ht both got => by
    obtain ⟨pair, one, two, e1, e2, e3, f1, f2⟩ := got
    exact ⟨pair, one, two, e1, e2, e3, f1 _ both.1, f2 _ both.2⟩
section
variable {H : Hp} {Q : VK}
theorem w_e1 {a : Int} {R : Int → Prop} (h : R a) : ∃ i, [V.int a] = [V.int i] ∧ R i := ⟨a, rfl, h⟩
theorem w_e2 {a b : Int} {R : Int → Int → Prop} (h : R a b) : ∃ i j, [V.int a, V.int b] = [V.int i, V.int j] ∧ R i j := ⟨a, b, rfl, h⟩
theorem w_Iv {C : Int → Int → Prop} {g : Int → Int → V} {a b : Int} {z : V} (hc : C a b) (e : g a b = z) (q : Q z H) : rI C g (.int a) (.int b) H Q := ⟨a, b, rfl, rfl, hc, by
  rw [e]
  exact q⟩
end
/-! ### heaps -/
def Mv (b : Addr) (H H' : Hp) : Prop := ∀ p o, p ≠ b → H p = some o → H' p = some o
def Kt (H H' : Hp) : Prop := ∀ p xs, H p = some (.tup xs) → H' p = some (.tup xs)
theorem Kt.refl (H : Hp) : Kt H H := fun _ _ h => h
theorem Kt.trans {H H1 H2 : Hp} (a : Kt H H1) (b : Kt H1 H2) : Kt H H2 := fun p xs h => b p xs (a p xs h)
theorem Kt.of {H H' : Hp} (s : Same H H') : Kt H H' := fun p xs h => s p _ h
theorem Mv.refl (b : Addr) (H : Hp) : Mv b H H := fun _ _ _ h => h
theorem Mv.trans {b : Addr} {H H1 H2 : Hp} (m1 : Mv b H H1) (m2 : Mv b H1 H2) : Mv b H H2 := fun p o n h => m2 p o n (m1 p o n h)
theorem Mv.same {b : Addr} {H H1 : Hp} (s : Same H H1) : Mv b H H1 := fun p o _ h => s p o h
theorem Mv.upd {b : Addr} {H : Hp} {o : HO} : Mv b H (upd H b o) := fun p u n h => by
  rw [upd_ne n]
  exact h
def Bag (H : Hp) (b : Addr) : Prop := ∃ A B : Int, H b = some (.lst [.int A, .int B]) ∧ 0 ≤ A ∧ 0 ≤ B ∧ B < 2147483647
theorem Mv.kt {b : Addr} {H H' : Hp} (m : Mv b H H') (hb : Bag H b) : Kt H H' := fun p xs h => m p _ (fun e => by
  subst e
  obtain ⟨A, B, h2, _⟩ := hb
  rw [h] at h2
  cases h2) h
theorem Bag.same {b : Addr} {H H' : Hp} (hb : Bag H b) (s : Same H H') : Bag H' b := by
  obtain ⟨A, B, h, r⟩ := hb
  exact ⟨A, B, s _ _ h, r⟩
/-- a number: a tuple of two whole numbers, of less than k bits, the second not 0 -/
def NumB (H : Hp) (v : V) (k : Nat) : Prop := ∃ (p : Addr) (x y : Int), v = .ref p ∧ H p = some (.tup [.int x, .int y]) ∧ x.natAbs < 2 ^ k ∧ y.natAbs < 2 ^ k ∧ y ≠ 0
theorem NumB.kt {H H' : Hp} {v : V} {k : Nat} (h : NumB H v k) (s : Kt H H') : NumB H' v k := by
  obtain ⟨p, x, y, e, hp, r⟩ := h
  exact ⟨p, x, y, e, s _ _ hp, r⟩
theorem NumB.mono {H : Hp} {v : V} {k l : Nat} (h : NumB H v k) (hl : k ≤ l) : NumB H v l := by
  obtain ⟨p, x, y, e, hp, h1, h2, h3⟩ := h
  exact ⟨p, x, y, e, hp, Nat.lt_of_lt_of_le h1 (Nat.pow_le_pow_right (by decide) hl), Nat.lt_of_lt_of_le h2 (Nat.pow_le_pow_right (by decide) hl), h3⟩
theorem Kt.updL {H : Hp} {D : Addr} {xs : List V} {o : HO} (h : H D = some (.lst xs)) : Kt H (upd H D o) := fun p ys hp => by
  have n : p ≠ D := fun e => by
    subst e
    rw [h] at hp
    cases hp
  rw [upd_ne n]
  exact hp
theorem bag_ne {H : Hp} {b p : Addr} (hb : Bag H b) (hp : H p = none) : p ≠ b := fun e => by
  subst e
  obtain ⟨A, B, h2, _⟩ := hb
  rw [hp] at h2
  cases h2
theorem Bag.upd {H : Hp} {b D : Addr} {o : HO} (hb : Bag H b) (n : D ≠ b) : Bag (upd H D o) b := by
  obtain ⟨A, B, h, r⟩ := hb
  exact ⟨A, B, (upd_ne n.symm).trans h, r⟩
theorem Mv.updD {b D : Addr} {H H' : Hp} {o : HO} (m : Mv b H H') (hD : H D = none) : Mv b H (L2.upd H' D o) := fun p u n h => by
  rw [upd_ne (ne_of_none h hD)]
  exact m p u n h
theorem Same.updD {D : Addr} {H H' : Hp} {o : HO} (m : Same H H') (hD : H D = none) : Same H (L2.upd H' D o) := fun p u h => by
  rw [upd_ne (ne_of_none h hD)]
  exact m p u h
/-- a row of n numbers -/
def RowB (H : Hp) (v : V) (n k : Nat) : Prop := ∃ (p : Addr) (xs : List V), v = .ref p ∧ H p = some (.tup xs) ∧ xs.length = n ∧ ∀ x ∈ xs, NumB H x k
theorem RowB.kt {H H' : Hp} {v : V} {n k : Nat} (h : RowB H v n k) (s : Kt H H') : RowB H' v n k := by
  obtain ⟨p, xs, e, hp, hl, r⟩ := h
  exact ⟨p, xs, e, s _ _ hp, hl, fun x hx => (r x hx).kt s⟩
theorem RowB.mono {H : Hp} {v : V} {n k l : Nat} (h : RowB H v n k) (hl : k ≤ l) : RowB H v n l := by
  obtain ⟨p, xs, e, hp, hn, r⟩ := h
  exact ⟨p, xs, e, hp, hn, fun x hx => (r x hx).mono hl⟩
/-- a table -/
def TabB (H : Hp) (v : V) (m n k : Nat) : Prop := ∃ (p : Addr) (xs : List V), v = .ref p ∧ H p = some (.tup xs) ∧ xs.length = m ∧ ∀ x ∈ xs, RowB H x n k
theorem TabB.kt {H H' : Hp} {v : V} {m n k : Nat} (h : TabB H v m n k) (s : Kt H H') : TabB H' v m n k := by
  obtain ⟨p, xs, e, hp, hl, r⟩ := h
  exact ⟨p, xs, e, s _ _ hp, hl, fun x hx => (r x hx).kt s⟩
/-! ### the number of two whole numbers -/
def lowI (g u d : Int) : Option Nat := if 0 < g then (List.range g.toNat).find? (fun i => decide (((i : Int) * d).fmod g = u.fmod g)) else none
def lowC (u d : Int) : Int := (Int.gcd u d : Int) * (if d < 0 then -1 else 1)
def lowF (g u d : Int) : Int × Int := match lowI g u d with
  | some i => ((i : Int), 1)
  | none => (u.fdiv (lowC u d), d.fdiv (lowC u d))
theorem lowC_ne {u d : Int} (h : d ≠ 0) : lowC u d ≠ 0 := by
  have h1 : Int.gcd u d ≠ 0 := fun z => h (Int.gcd_eq_zero_iff.mp z).2
  unfold lowC
  split <;> omega
theorem lowC_dvd {u d : Int} : (∃ q, u = lowC u d * q) ∧ ∃ q, d = lowC u d * q := by
  obtain ⟨q1, e1⟩ := Int.gcd_dvd_left u d
  obtain ⟨q2, e2⟩ := Int.gcd_dvd_right u d
  unfold lowC
  split
  · refine ⟨⟨-q1, ?_⟩, ⟨-q2, ?_⟩⟩
    · rw [Int.mul_assoc, Int.neg_mul_neg, Int.one_mul]; exact e1
    · rw [Int.mul_assoc, Int.neg_mul_neg, Int.one_mul]; exact e2
  · refine ⟨⟨q1, ?_⟩, ⟨q2, ?_⟩⟩
    · rw [Int.mul_one]; exact e1
    · rw [Int.mul_one]; exact e2
theorem natAbs_fac {c q : Int} (h : c ≠ 0) : q.natAbs ≤ (c * q).natAbs := by
  rw [Int.natAbs_mul]
  have : 1 ≤ c.natAbs := by omega
  exact Nat.le_mul_of_pos_left _ this
theorem lowC_le {u d : Int} (h : d ≠ 0) : (lowC u d).natAbs ≤ d.natAbs := by
  obtain ⟨_, q, e⟩ := lowC_dvd (u := u) (d := d)
  have hq : q ≠ 0 := fun z => h (by rw [e, z, Int.mul_zero])
  have : (lowC u d).natAbs ≤ (lowC u d * q).natAbs := by
    rw [Int.mul_comm]; exact natAbs_fac hq
  rw [← e] at this
  exact this
theorem low_bd {g u d : Int} {k : Nat} (hg : g ≤ 13) (hd : d ≠ 0) (hk : 4 ≤ k) (h1 : u.natAbs < 2 ^ k) (h2 : d.natAbs < 2 ^ k) : (lowF g u d).1.natAbs < 2 ^ k ∧ (lowF g u d).2.natAbs < 2 ^ k ∧ (lowF g u d).2 ≠ 0 := by
  have hk16 : 16 ≤ 2 ^ k := Nat.le_trans (by decide : 16 ≤ 2 ^ 4) (Nat.pow_le_pow_right (by decide) hk)
  unfold lowF
  cases e : lowI g u d with
  | some i =>
    have hi : i < 13 := by
      unfold lowI at e
      split at e
      · have := List.mem_of_find?_eq_some e
        have := List.mem_range.mp this
        omega
      · cases e
    refine ⟨?_, ?_, fun z => absurd (show (1 : Int) = 0 from z) (by decide)⟩
    · show ((i : Int)).natAbs < 2 ^ k
      omega
    · show (1 : Int).natAbs < 2 ^ k
      omega
  | none =>
    have hc := lowC_ne (u := u) hd
    obtain ⟨⟨q1, e1⟩, q2, e2⟩ := lowC_dvd (u := u) (d := d)
    have f1 : u.fdiv (lowC u d) = q1 := by
      conv => lhs; lhs; rw [e1]
      exact Int.mul_fdiv_cancel_left _ hc
    have f2 : d.fdiv (lowC u d) = q2 := by
      conv => lhs; lhs; rw [e2]
      exact Int.mul_fdiv_cancel_left _ hc
    show (u.fdiv (lowC u d)).natAbs < 2 ^ k ∧ (d.fdiv (lowC u d)).natAbs < 2 ^ k ∧ d.fdiv (lowC u d) ≠ 0
    rw [f1, f2]
    refine ⟨Nat.lt_of_le_of_lt ?_ h1, Nat.lt_of_le_of_lt ?_ h2, fun z => hd ?_⟩
    · have := natAbs_fac (q := q1) hc
      rw [← e1] at this
      exact this
    · have := natAbs_fac (q := q2) hc
      rw [← e2] at this
      exact this
    · rw [e2, z, Int.mul_zero]
end Fm

namespace Fm
open PySem PySem.Spec PyProof.Rows L2
theorem w_js {t : TE} {ts : List TE} {acc : Str} {σ : L2.St} {H : Hp} {R : Str → Hp → Prop} (h : t σ H fun x H1 => ∃ y : Str, x = .str y ∧ (acc ++ y).length ≤ sizeLine ∧ tJs ts (acc ++ y) σ H1 R) : tJs (t :: ts) acc σ H R := h
theorem w_js0 {acc : Str} {σ : L2.St} {H : Hp} {R : Str → Hp → Prop} (h : R acc H) : tJs [] acc σ H R := h
theorem w_fmt {te : TE} {σ : L2.St} {H : Hp} {Q : VK} (h : te σ H fun x H1 => (∃ y : Str, x = .str y ∧ y.length ≤ sizeLine ∧ Q (.str y) H1) ∨ ∃ i : Int, x = .int i ∧ i.natAbs.log2 < 1920 ∧ Q (.str (toString i)) H1) : tFmt te σ H Q := h
theorem w_rep {H : Hp} {Q : VK} {l : Addr} {k : Int} {xs : List V} (h : H l = some (.lst xs)) (h0 : 0 ≤ k) (h1 : k ≤ 100) (hx : xs.length ≤ 100) (q : NewO (.lst (List.replicate k.toNat xs).flatten) H Q) : rRep (.ref l) (.int k) H Q := by
  refine ⟨l, k, xs, rfl, rfl, h, by omega, by omega, ?_, q⟩
  have e : xs.length * k.toNat ≤ 100 * 100 := Nat.mul_le_mul hx (by omega)
  exact Nat.le_trans e (by decide)
theorem w_bm {K : PySem.W.Frag} {T : String} {r : V → List V → Hp → VK → Prop} {to : TE} {t : TA} {σ : L2.St} {H : Hp} {Q : VK} (h : to σ H fun x H1 => tyV K T x H1 ∧ t σ H1 fun xs H2 => r x xs H2 Q) : tBM K T r to t σ H Q := h
theorem w_append {H : Hp} {Q : VK} {l : Addr} {xs : List V} {y : V} (h : H l = some (.lst xs)) (hz : xs.length ≤ 1000) (q : Q .non (upd H l (.lst (xs ++ [y])))) : rAppend (.ref l) [y] H Q := ⟨l, xs, y, rfl, rfl, h, small1000 hz, q⟩
theorem w_cat {H : Hp} {Q : VK} {l b : Addr} {xs zs : List V} (h : H l = some (.lst xs)) (h2 : H b = some (.lst zs)) (hz : xs.length + zs.length ≤ 1000) (q : NewO (.lst (xs ++ zs)) H Q) : rCat (.ref l) (.ref b) H Q := ⟨l, b, xs, zs, rfl, rfl, h, h2, Nat.le_of_lt (small1000 hz), q⟩
theorem w_revL {K : PySem.W.Frag} {te : TE} {σ : L2.St} {H : Hp} {Q : VK} (h : te σ H fun x H1 => ∃ a xs, x = .ref a ∧ SqL K H1 a xs ∧ NewO (.lst xs.reverse) H1 Q) : tRevL K te σ H Q := h
theorem Same.mv {b : Addr} {H0 H H' : Hp} (s : Same H0 H) (hb : H0 b = none) (m : Mv b H H') : Same H0 H' := fun p o h => m p o (ne_of_none h hb) (s p o h)
theorem Same.upd {b : Addr} {H0 H : Hp} {o : HO} (s : Same H0 H) (hb : H0 b = none) : Same H0 (upd H b o) := fun p u h => by
  rw [upd_ne (ne_of_none h hb)]
  exact s p u h
/-! ### data of any depth -/
def Dat (K : PySem.W.Frag) (H : Hp) (v : V) (n : Nat) : Prop := ∃ d, Dp K H v d ∧ d.canLay0 = true ∧ d.depth ≤ n
theorem dat_all {K : PySem.W.Frag} {H : Hp} {n : Nat} : ∀ {xs : List V}, (∀ x ∈ xs, Dat K H x n) → ∃ ds, DpAll K H xs ds ∧ PyData.canLayAll0 ds = true ∧ PyData.depthAll ds ≤ n ∧ ds.length = xs.length
  | [], _ => ⟨[], .nil, by simp [PyData.canLayAll0], by simp [PyData.depthAll], rfl⟩
  | x :: xs, h => by
    obtain ⟨d, h1, h2, h3⟩ := h x (List.mem_cons_self ..)
    obtain ⟨ds, g1, g2, g3, g4⟩ := dat_all (xs := xs) fun y hy => h y (List.mem_cons_of_mem _ hy)
    refine ⟨d :: ds, .cons h1 g1, ?_, ?_, by rw [List.length_cons, List.length_cons, g4]⟩
    · rw [PyData.canLayAll0, h2, g2]; rfl
    · rw [PyData.depthAll]; omega
theorem dat_int {K : PySem.W.Frag} {H : Hp} {i : Int} : Dat K H (.int i) 0 := ⟨.int i, .int i, by simp [PyData.canLay0], by simp [PyData.depth]⟩
theorem dat_tup {K : PySem.W.Frag} {H : Hp} {p : Addr} {xs : List V} {n : Nat} (h : H p = some (.tup xs)) (hx : ∀ x ∈ xs, Dat K H x n) : Dat K H (.ref p) (n + 1) := by
  obtain ⟨ds, g1, g2, g3, g4⟩ := dat_all hx
  exact ⟨.tuple ds, .tup (SqT.of h) g1, by rw [PyData.canLay0]; exact g2, by rw [PyData.depth]; omega⟩
theorem NumB.dat {K : PySem.W.Frag} {H : Hp} {v : V} {k : Nat} (h : NumB H v k) : Dat K H v 1 := by
  obtain ⟨p, x, y, rfl, hp, _⟩ := h
  refine dat_tup hp fun z hz => ?_
  rcases List.mem_cons.mp hz with rfl | hz
  · exact dat_int
  · rw [List.mem_singleton.mp hz]; exact dat_int
theorem RowB.dat {K : PySem.W.Frag} {H : Hp} {v : V} {n k : Nat} (h : RowB H v n k) : Dat K H v 2 := by
  obtain ⟨p, xs, rfl, hp, _, hx⟩ := h
  exact dat_tup hp fun z hz => (hx z hz).dat
theorem shaped_of {d : PyData} (h : d.canLay0 = true) (h2 : d.depth ≤ 64) : SeqAt.shaped d = true := by
  show (d.canLay0 && decide (d.depth ≤ 64)) = true
  rw [h, decide_eq_true h2]
  rfl
theorem w_neNil {K : PySem.W.Frag} {H : Hp} {Q : VK} {p r : Addr} {xs : List V} {n : Nat} (h : H p = some (.lst xs)) (h2 : H r = some (.lst [])) (hx : ∀ x ∈ xs, Dat K H x n) (hn : n ≤ 60) (q : Q (.bl (!decide (xs = []))) H) : rNeD K (.ref p) (.ref r) H Q := by
  obtain ⟨ds, g1, g2, g3, g4⟩ := dat_all hx
  refine ⟨.list ds, .list [], .lst (SqL.of h) g1, .lst (SqL.of h2) .nil, shaped_of (by rw [PyData.canLay0]; exact g2) (by rw [PyData.depth]; omega), shaped_of (by simp [PyData.canLay0, PyData.canLayAll0]) (by simp [PyData.depth, PyData.depthAll]), ?_⟩
  have e : PyData.eqv (.list ds) (.list []) = decide (xs = []) := by
    rw [PyData.eqv]
    cases xs with
    | nil =>
      have : ds = [] := List.length_eq_zero_iff.mp g4
      rw [this, decide_eq_true rfl]; rw [PyData.eqvAll]
    | cons x r =>
      cases ds with
      | nil => cases g4
      | cons d ds => rw [decide_eq_false (by simp)]; rw [PyData.eqvAll]
  rw [e]
  exact q
/-! ### texts -/
def TxtOk (z : Str) (n : Nat) : Prop := z.length ≤ n ∧ PyData.strOk z = true
theorem TxtOk.mono {a : Str} {n m : Nat} (h : TxtOk a n) (hl : n ≤ m) : TxtOk a m := ⟨Nat.le_trans h.1 hl, h.2⟩
/-- a number's text -/
def numT (a : Int × Int) : Str := if a.2 = 1 then Str.ofString (toString a.1) else Str.ofString (toString a.1) ++ ("/" : Str) ++ Str.ofString (toString a.2)
def Sm (a : Int × Int) : Prop := a.1.natAbs.log2 < 1920 ∧ a.2.natAbs.log2 < 1920
def rowT (r : List (Int × Int)) : Str := Txt.join (" " : Str) (r.map numT)
def tabT (t : List (List (Int × Int))) : Str := Txt.join (" / " : Str) (t.map rowT)
/-! ### numbers, rows, tables by their values -/
def NumV (H : Hp) (v : V) (a : Int × Int) : Prop := ∃ p, v = .ref p ∧ H p = some (.tup [.int a.1, .int a.2])
def SqV {α : Type} (P : Hp → V → α → Prop) (H : Hp) (v : V) (as : List α) : Prop := ∃ p xs, v = .ref p ∧ H p = some (.tup xs) ∧ xs.length = as.length ∧ ∀ (i : Nat) (x : V) (a : α), xs[i]? = some x → as[i]? = some a → P H x a
abbrev RowV := SqV NumV
abbrev TabV := SqV RowV
theorem NumV.kt {H H' : Hp} {v : V} {a : Int × Int} (h : NumV H v a) (s : Kt H H') : NumV H' v a := by
  obtain ⟨p, e, hp⟩ := h
  exact ⟨p, e, s _ _ hp⟩
theorem RowV.kt {H H' : Hp} {v : V} {a : List (Int × Int)} (h : RowV H v a) (s : Kt H H') : RowV H' v a := by
  obtain ⟨p, xs, e, hp, hl, hx⟩ := h
  exact ⟨p, xs, e, s _ _ hp, hl, fun i x b h1 h2 => (hx i x b h1 h2).kt s⟩
theorem TabV.kt {H H' : Hp} {v : V} {a : List (List (Int × Int))} (h : TabV H v a) (s : Kt H H') : TabV H' v a := by
  obtain ⟨p, xs, e, hp, hl, hx⟩ := h
  exact ⟨p, xs, e, s _ _ hp, hl, fun i x b h1 h2 => RowV.kt (hx i x b h1 h2) s⟩
theorem sm_of {x : Int} {k : Nat} (h : x.natAbs < 2 ^ k) (hk : 0 < k) (hk2 : k ≤ 1000) : x.natAbs.log2 < 1920 := Nat.lt_of_lt_of_le (PySem.Flt.log2_lt_of hk h) (by omega)
theorem NumB.val {H : Hp} {v : V} {k : Nat} (h : NumB H v k) (hk : 0 < k) (hk2 : k ≤ 1000) : ∃ a, NumV H v a ∧ Sm a := by
  obtain ⟨p, x, y, e, hp, h1, h2, _⟩ := h
  exact ⟨(x, y), ⟨p, e, hp⟩, sm_of h1 hk hk2, sm_of h2 hk hk2⟩
theorem sq_val {α : Type} {P : Hp → V → α → Prop} {S : α → Prop} {H : Hp} : ∀ {xs : List V}, (∀ x ∈ xs, ∃ a, P H x a ∧ S a) → ∃ as : List α, xs.length = as.length ∧ (∀ a ∈ as, S a) ∧ ∀ (i : Nat) (x : V) (a : α), xs[i]? = some x → as[i]? = some a → P H x a
  | [], _ => ⟨[], rfl, (fun a ha => by cases ha), fun i x a h _ => by simp at h⟩
  | x :: xs, h => by
    obtain ⟨a, h1, h2⟩ := h x (List.mem_cons_self ..)
    obtain ⟨as, g1, g2, g3⟩ := sq_val (xs := xs) fun y hy => h y (List.mem_cons_of_mem _ hy)
    refine ⟨a :: as, by rw [List.length_cons, List.length_cons, g1], fun b hb => ?_, fun i y b e1 e2 => ?_⟩
    · rcases List.mem_cons.mp hb with rfl | hb
      · exact h2
      · exact g2 b hb
    · cases i with
      | zero =>
        cases Option.some.inj e1
        cases Option.some.inj e2
        exact h1
      | succ i => exact g3 i y b e1 e2
theorem RowB.val {H : Hp} {v : V} {n k : Nat} (h : RowB H v n k) (hk : 0 < k) (hk2 : k ≤ 1000) : ∃ r, RowV H v r ∧ r.length = n ∧ ∀ a ∈ r, Sm a := by
  obtain ⟨p, xs, e, hp, hl, hx⟩ := h
  obtain ⟨as, g1, g2, g3⟩ := sq_val (P := NumV) (S := Sm) (H := H) (xs := xs) fun x hx' => (hx x hx').val hk hk2
  exact ⟨as, ⟨p, xs, e, hp, g1, g3⟩, by omega, g2⟩
theorem TabB.val {H : Hp} {v : V} {m n k : Nat} (h : TabB H v m n k) (hk : 0 < k) (hk2 : k ≤ 1000) : ∃ t, TabV H v t ∧ t.length = m ∧ ∀ r ∈ t, (∀ a ∈ r, Sm a) ∧ r.length = n := by
  obtain ⟨p, xs, e, hp, hl, hx⟩ := h
  obtain ⟨as, g1, g2, g3⟩ := sq_val (P := RowV) (S := fun r => (∀ a ∈ r, Sm a) ∧ r.length = n) (H := H) (xs := xs) fun x hx' => by
    obtain ⟨r, h1, h2, h3⟩ := (hx x hx').val hk hk2
    exact ⟨r, h1, h3, h2⟩
  exact ⟨as, ⟨p, xs, e, hp, g1, g3⟩, by omega, g2⟩
/-! ### rows grown -/
def kk (i : Nat) : Nat := 2 ^ (i + 3) - 1
theorem RowB.zeros {H : Hp} {u : Addr} {l : Addr} {n : Nat} (hu : H u = some (.tup [.int 0, .int 1])) (hl : H l = some (.tup (List.replicate n [V.ref u]).flatten)) : RowB H (.ref l) n 7 := by
  rw [List.flatten_replicate_singleton] at hl
  refine ⟨l, _, rfl, hl, List.length_replicate, fun x hx => ?_⟩
  rw [(List.mem_replicate.mp hx).2]
  exact ⟨u, 0, 1, rfl, hu, by decide, by decide, by decide⟩
/-! ### what is looked at together -/
def Tri (H : Hp) (v : V) : Prop := ∃ (p : Addr) (x r t : V), v = .ref p ∧ H p = some (.tup [x, r, t]) ∧ (∃ a, NumV H x a ∧ Sm a) ∧ (∃ rs, RowV H r rs ∧ (∀ a ∈ rs, Sm a) ∧ rs.length ≤ 10) ∧ ∃ ts, TabV H t ts ∧ (∀ r ∈ ts, (∀ a ∈ r, Sm a) ∧ r.length ≤ 10) ∧ ts.length ≤ 10
theorem Tri.kt {H H' : Hp} {v : V} (h : Tri H v) (s : Kt H H') : Tri H' v := by
  obtain ⟨p, x, r, t, e, hp, ⟨a, h1, h2⟩, ⟨rs, h3, h4⟩, ts, h5, h6⟩ := h
  exact ⟨p, x, r, t, e, s _ _ hp, ⟨a, h1.kt s, h2⟩, ⟨rs, RowV.kt h3 s, h4⟩, ts, TabV.kt h5 s, h6⟩
theorem TabB.mono {H : Hp} {v : V} {m n k l : Nat} (h : TabB H v m n k) (hl : k ≤ l) : TabB H v m n l := by
  obtain ⟨p, xs, e, hp, hn, r⟩ := h
  exact ⟨p, xs, e, hp, hn, fun x hx => (r x hx).mono hl⟩
theorem sqv1 {α : Type} {P : Hp → V → α → Prop} {H : Hp} {p : Addr} {x : V} {a : α} (hp : H p = some (.tup [x])) (h1 : P H x a) : SqV P H (.ref p) [a] := ⟨p, [x], rfl, hp, rfl, fun i y b e1 e2 => by
  cases i with
  | zero => cases Option.some.inj e1; cases Option.some.inj e2; exact h1
  | succ i => simp at e1⟩
theorem all_true (n : Nat) : (List.replicate n true).all id = true := by
  rw [List.all_eq_true]
  intro x hx
  rw [(List.mem_replicate.mp hx).2]
  rfl
theorem fresh_of {H : Hp} {p q : Addr} {o : HO} (h : H p = some o) (hq : H q = none) : p ≠ q := fun e => by
  subst e
  rw [h] at hq
  cases hq
end Fm

namespace Fm
open PySem PySem.Spec PyProof.Rows L2
theorem w_chain {r r' : R2} {ta tb tc : TE} {σ : L2.St} {H : Hp} {Q : VK} (h : ta σ H fun x H1 => tb σ H1 fun y H2 => r x y H2 fun z H3 => ∃ k, z = .bl k ∧ (if k = true then tc σ H3 fun w' H4 => r' y w' H4 Q else Q (.bl false) H3)) : tChain r r' ta tb tc σ H Q := h
theorem w_rng2 {ta : TA} {σ : L2.St} {H : Hp} {R : It → Hp → Prop} (h : ta σ H fun vs H1 => ∃ i j : Int, vs = [.int i, .int j] ∧ (-(2 ^ 62) ≤ i ∧ i < 2 ^ 62 ∧ -(2 ^ 62) ≤ j ∧ j < 2 ^ 62) ∧ R (Itr i (j - i).toNat) H1) : iRng2 ta σ H R := h
theorem w_iteB {b : Bool} {A B : Prop} (h1 : b = true → A) (h2 : b = false → B) : if b = true then A else B := by
  cases b with
  | true => exact h1 rfl
  | false => exact h2 rfl
theorem w_iteBN {b : Bool} {A B : Prop} (h1 : b = false → A) (h2 : b = true → B) : if (!b) = true then A else B := by
  cases b with
  | true => exact h2 rfl
  | false => exact h1 rfl
/-! ### any things -/
def Kl (H H' : Hp) : Prop := ∀ p xs, H p = some (.lst xs) → ∃ ys, H' p = some (.lst ys)
def Kd (H H' : Hp) : Prop := Kt H H' ∧ Kl H H'
theorem Kd.refl (H : Hp) : Kd H H := ⟨Kt.refl H, fun _ xs h => ⟨xs, h⟩⟩
theorem Kd.trans {H H1 H2 : Hp} (a : Kd H H1) (b : Kd H1 H2) : Kd H H2 := ⟨a.1.trans b.1, fun p xs h => by
  obtain ⟨ys, h1⟩ := a.2 p xs h
  exact b.2 p ys h1⟩
theorem Kd.of {H H' : Hp} (s : Same H H') : Kd H H' := ⟨Kt.of s, fun p xs h => ⟨xs, s _ _ h⟩⟩
theorem Kd.mv {b : Addr} {H H' : Hp} (m : Mv b H H') (hb : Bag H b) (hb' : Bag H' b) : Kd H H' := ⟨m.kt hb, fun p xs h => by
  by_cases e : p = b
  · subst e
    obtain ⟨A, B, h2, _⟩ := hb'
    exact ⟨_, h2⟩
  · exact ⟨xs, m _ _ e h⟩⟩
theorem Kd.updL {H : Hp} {D : Addr} {xs ys : List V} (h : H D = some (.lst xs)) : Kd H (upd H D (.lst ys)) := ⟨Kt.updL h, fun p zs hp => by
  by_cases e : p = D
  · subst e
    exact ⟨ys, upd_same⟩
  · exact ⟨zs, by rw [upd_ne e]; exact hp⟩⟩
def atomB : V → Bool
  | .non => true
  | .bl _ => true
  | .int _ => true
  | .str _ => true
  | _ => false
/-- any thing: of no parts, a list, a tuple of things of no parts -/
def Th (H : Hp) (v : V) : Prop := atomB v = true ∨ (∃ p xs, v = .ref p ∧ H p = some (.lst xs)) ∨ ∃ p xs, v = .ref p ∧ H p = some (.tup xs) ∧ ∀ x ∈ xs, atomB x = true
theorem Th.kd {H H' : Hp} {v : V} (h : Th H v) (k : Kd H H') : Th H' v := by
  rcases h with h | ⟨p, xs, e, h⟩ | ⟨p, xs, e, h, hx⟩
  · exact .inl h
  · obtain ⟨ys, h2⟩ := k.2 p xs h
    exact .inr (.inl ⟨p, ys, e, h2⟩)
  · exact .inr (.inr ⟨p, xs, e, k.1 _ _ h, hx⟩)
theorem Th.sm {H H' : Hp} {v : V} (h : Th H v) (s : Same H H') : Th H' v := h.kd (Kd.of s)
theorem Th.tup {H : Hp} {p : Addr} {xs : List V} (h : H p = some (.tup xs)) (hx : xs.all atomB = true) : Th H (.ref p) := .inr (.inr ⟨p, xs, rfl, h, fun x m => List.all_eq_true.mp hx x m⟩)
theorem Th.lst {H : Hp} {p : Addr} {xs : List V} (h : H p = some (.lst xs)) : Th H (.ref p) := .inr (.inl ⟨p, xs, rfl, h⟩)
theorem NumB.th {H : Hp} {v : V} {k : Nat} (h : NumB H v k) : Th H v := by
  obtain ⟨p, x, y, rfl, hp, _⟩ := h
  exact Th.tup hp rfl
/-! ### what is told of them -/
def intB : V → Bool
  | .int _ => true
  | .bl _ => true
  | _ => false
def blB : V → Bool
  | .bl _ => true
  | _ => false
def wholeB : V → Bool
  | .int _ => true
  | _ => false
def grdB : V → Bool
  | .int i => decide (i ∈ [0, 3, 5, 7, 11, 13])
  | _ => false
def numOk (g : Int) : List V → Bool
  | [.int t, .int b] => if g = 0 then decide (1 ≤ b) && decide (Int.gcd t b = 1) else (decide (0 ≤ t) && decide (t < g)) && decide (b = 1)
  | _ => false
def numAt (g : Int) : Option HO → Bool
  | some (.tup xs) => numOk g xs
  | _ => false
def numOf (H : Hp) (g : Int) : V → Bool
  | .ref p => numAt g (H p)
  | _ => false
theorem numOf_tup {H : Hp} {g : Int} {p : Addr} {xs : List V} (h : H p = some (.tup xs)) : numOf H g (.ref p) = numOk g xs := by
  show numAt g (H p) = _
  rw [h]
  rfl
theorem numOf_lst {H : Hp} {g : Int} {p : Addr} {xs : List V} (h : H p = some (.lst xs)) : numOf H g (.ref p) = false := by
  show numAt g (H p) = _
  rw [h]
  rfl
theorem whole_eq (v : V) : wholeB v = (intB v && !blB v) := by
  cases v <;> rfl
theorem whole_int {v : V} (h : wholeB v = true) : ∃ i, v = .int i := by
  cases v with
  | int i => exact ⟨i, rfl⟩
  | _ => cases h
theorem beq_comm_int (a b : Int) : (a == b) = decide (b = a) := by
  by_cases h : a = b
  · subst h; simp
  · rw [beq_eq_false_iff_ne.mpr h, decide_eq_false (fun e => h e.symm)]
theorem in_grd (i : Int) : inV (.int i) [.int 0, .int 3, .int 5, .int 7, .int 11, .int 13] = grdB (.int i) := by
  show (((0 : Int) == i) || (((3 : Int) == i) || (((5 : Int) == i) || (((7 : Int) == i) || (((11 : Int) == i) || (((13 : Int) == i) || false)))))) = decide (i ∈ [0, 3, 5, 7, 11, 13])
  rw [beq_comm_int, beq_comm_int, beq_comm_int, beq_comm_int, beq_comm_int, beq_comm_int, Bool.eq_iff_iff]
  simp
theorem numOk_len {g : Int} {xs : List V} (h : xs.length ≠ 2) : numOk g xs = false := by
  match xs, h with
  | [], _ => rfl
  | [x], _ => cases x <;> rfl
  | [x, y], h => exact absurd rfl h
  | x :: y :: z :: r, _ => cases x <;> cases y <;> rfl
theorem numOk_l {g : Int} {x y : V} (h : wholeB x = false) : numOk g [x, y] = false := by
  cases x with
  | int i => cases h
  | _ => cases y <;> rfl
theorem numOk_r {g : Int} {x y : V} (h : wholeB y = false) : numOk g [x, y] = false := by
  cases y with
  | int i => cases h
  | _ => cases x <;> rfl
theorem numOk_0 {t b : Int} : numOk 0 [.int t, .int b] = (decide (1 ≤ b) && decide ((Int.gcd t b : Int) = 1)) := by
  have e : numOk 0 [.int t, .int b] = (decide (1 ≤ b) && decide (Int.gcd t b = 1)) := by simp [numOk]
  rw [e]
  congr 1
  rw [decide_eq_decide]
  omega
theorem numOk_g {g t b : Int} (h : g ≠ 0) : numOk g [.int t, .int b] = ((decide (0 ≤ t) && decide (t < g)) && decide (b = 1)) := by
  simp [numOk, h]
/-! ### isinstance -/
def tyAt : Option HO → String
  | some (.tup _) => "tuple"
  | _ => "list"
def tyN (H : Hp) : V → String
  | .non => "NoneType"
  | .bl _ => "bool"
  | .int _ => "int"
  | .str _ => "str"
  | .ref p => tyAt (H p)
  | _ => ""
theorem Th.ty {K : PySem.W.Frag} {H : Hp} {v : V} (h : Th H v) : TyX K H v (.type (tyN H v)) := by
  rcases h with h | ⟨p, xs, rfl, h⟩ | ⟨p, xs, rfl, h, _⟩
  · cases v with
    | non => exact .base .non
    | bl b => exact .base (.bl b)
    | int i => exact .base (.int i)
    | str z => exact .base (.str z)
    | _ => cases h
  · have e : tyN H (.ref p) = "list" := by show tyAt (H p) = _; rw [h]; rfl
    rw [e]
    exact .base (.lst h)
  · have e : tyN H (.ref p) = "tuple" := by show tyAt (H p) = _; rw [h]; rfl
    rw [e]
    exact .base (.tup h)
theorem isi_is {K : PySem.W.Frag} {H : Hp} {Q : VK} {v : V} {a T : String} {b : Bool} (h : TyX K H v (.type a)) (e : kitB a T = some b) (q : Q (.bl b) H) : rIsi K [v, .ty T] H Q := ⟨v, .ty T, .type a, .type T, b, rfl, .ty T, h, kit_ty e, q⟩
/-! ### common divisors -/
theorem gcd_fmod (x y : Int) : Int.gcd y (x.fmod y) = Int.gcd x y := by
  have e : x.fmod y = x - y * x.fdiv y := Int.fmod_def x y
  rw [e]
  refine Nat.dvd_antisymm ?_ ?_
  · have h1 := Int.gcd_dvd_left y (x - y * x.fdiv y)
    have h2 := Int.gcd_dvd_right y (x - y * x.fdiv y)
    refine Int.dvd_gcd ?_ h1
    have h3 := Int.dvd_add h2 (Int.dvd_mul_of_dvd_left (c := x.fdiv y) h1)
    rw [Int.sub_add_cancel] at h3
    exact h3
  · have h1 := Int.gcd_dvd_left x y
    have h2 := Int.gcd_dvd_right x y
    refine Int.dvd_gcd h2 ?_
    exact Int.dvd_sub h1 (Int.dvd_mul_of_dvd_left h2)
theorem fmod_small (x : Int) {y : Int} (h : y ≠ 0) : (x.fmod y).natAbs < y.natAbs := by
  rcases Int.lt_or_gt_of_ne h with h | h
  · have e : x.fmod y = -((-x).fmod (-y)) := by
      have := Int.neg_fmod_neg x y
      omega
    have h1 := Int.fmod_nonneg_of_pos (-x) (show 0 < -y by omega)
    have h2 := Int.fmod_lt_of_pos (-x) (show 0 < -y by omega)
    omega
  · have h1 := Int.fmod_nonneg_of_pos x h
    have h2 := Int.fmod_lt_of_pos x h
    omega
def grds (i : Nat) : List Int := ((List.range i).map fun (j : Nat) => ((-20 : Int) + (j : Int))).filter fun z => grdB (.int z)
end Fm

namespace Fm
open PySem PySem.Spec PyProof.Rows L2
/-! ### fractions in lowest terms -/
def Red (p : Int × Int) : Prop := 0 < p.2 ∧ Int.gcd p.1 p.2 = 1
theorem dvd_cop {c a d : Int} (h : Int.gcd a c = 1) (hd : c ∣ a * d) : c ∣ d := by
  have h1 : c.natAbs ∣ a.natAbs * d.natAbs := by
    rw [← Int.natAbs_mul]
    exact Int.natAbs_dvd_natAbs.mpr hd
  have h2 : Nat.Coprime c.natAbs a.natAbs := by
    rw [Nat.Coprime, Nat.gcd_comm]
    exact h
  exact Int.natAbs_dvd_natAbs.mp (h2.dvd_of_dvd_mul_left h1)
theorem red_uniq {p q : Int × Int} (hp : Red p) (hq : Red q) (h : p.1 * q.2 = q.1 * p.2) : p = q := by
  obtain ⟨a, c⟩ := p
  obtain ⟨b, d⟩ := q
  obtain ⟨hc, h1⟩ := hp
  obtain ⟨hd, h2⟩ := hq
  simp only at hc h1 hd h2 h
  have d1 : c ∣ d := by
    have : c ∣ a * d := ⟨b, by rw [h, Int.mul_comm]⟩
    exact dvd_cop h1 this
  have d2 : d ∣ c := by
    have : d ∣ b * c := ⟨a, by rw [← h, Int.mul_comm]⟩
    exact dvd_cop h2 this
  have e : c = d := Int.le_antisymm (Int.le_of_dvd hd d1) (Int.le_of_dvd hc d2)
  subst e
  have e2 : a = b := Int.eq_of_mul_eq_mul_right (by omega) h
  rw [e2]
theorem low0_eq {u d : Int} (hd : d ≠ 0) : ∃ q1 q2, lowF 0 u d = (q1, q2) ∧ u = lowC u d * q1 ∧ d = lowC u d * q2 := by
  have hI : lowI 0 u d = none := by
    unfold lowI
    rw [if_neg (by decide)]
  have hc := lowC_ne (u := u) hd
  obtain ⟨⟨q1, e1⟩, q2, e2⟩ := lowC_dvd (u := u) (d := d)
  refine ⟨q1, q2, ?_, e1, e2⟩
  have f1 : u.fdiv (lowC u d) = q1 := by
    conv => lhs; lhs; rw [e1]
    exact Int.mul_fdiv_cancel_left _ hc
  have f2 : d.fdiv (lowC u d) = q2 := by
    conv => lhs; lhs; rw [e2]
    exact Int.mul_fdiv_cancel_left _ hc
  unfold lowF
  rw [hI]
  show (u.fdiv (lowC u d), d.fdiv (lowC u d)) = _
  rw [f1, f2]
theorem lowC_abs {u d : Int} : (lowC u d).natAbs = Int.gcd u d := by
  unfold lowC
  split
  · rw [Int.mul_neg, Int.mul_one, Int.natAbs_neg, Int.natAbs_natCast]
  · rw [Int.mul_one, Int.natAbs_natCast]
theorem low0_red {u d : Int} (hd : d ≠ 0) : Red (lowF 0 u d) ∧ (lowF 0 u d).1 * d = u * (lowF 0 u d).2 := by
  obtain ⟨q1, q2, e, e1, e2⟩ := low0_eq (u := u) hd
  have hc := lowC_ne (u := u) hd
  have ha := lowC_abs (u := u) (d := d)
  rw [e]
  refine ⟨⟨?_, ?_⟩, ?_⟩
  · show 0 < q2
    have hg : 0 < Int.gcd u d := by omega
    unfold lowC at e2
    by_cases h : d < 0
    · rw [if_pos h, Int.mul_neg, Int.mul_one] at e2
      rcases Int.lt_trichotomy q2 0 with z | z | z
      · have := Int.mul_nonneg_of_nonpos_of_nonpos (a := -(Int.gcd u d : Int)) (b := q2) (by omega) (by omega)
        omega
      · rw [z, Int.mul_zero] at e2; omega
      · exact z
    · rw [if_neg h, Int.mul_one] at e2
      rcases Int.lt_trichotomy q2 0 with z | z | z
      · have := Int.mul_nonpos_of_nonneg_of_nonpos (a := (Int.gcd u d : Int)) (b := q2) (by omega) (by omega)
        omega
      · rw [z, Int.mul_zero] at e2; omega
      · exact z
  · show Int.gcd q1 q2 = 1
    have h1 : Int.gcd (lowC u d * q1) (lowC u d * q2) = (lowC u d).natAbs * Int.gcd q1 q2 := Int.gcd_mul_left ..
    rw [← e1, ← e2, ha] at h1
    have hg : 0 < Int.gcd u d := by omega
    have h2 : Int.gcd u d * 1 = Int.gcd u d * Int.gcd q1 q2 := by rw [Nat.mul_one]; exact h1
    exact (Nat.eq_of_mul_eq_mul_left hg h2).symm
  · show q1 * d = u * q2
    conv => lhs; rw [e2]
    conv => rhs; rw [e1]
    rw [← Int.mul_assoc, Int.mul_comm q1]
theorem low0_uniq {p : Int × Int} {u d : Int} (hp : Red p) (hd : d ≠ 0) (h : p.1 * d = u * p.2) : lowF 0 u d = p := by
  obtain ⟨hr, he⟩ := low0_red (u := u) hd
  refine red_uniq hr hp ?_
  have : ((lowF 0 u d).1 * p.2) * d = (p.1 * (lowF 0 u d).2) * d := by
    calc ((lowF 0 u d).1 * p.2) * d = ((lowF 0 u d).1 * d) * p.2 := by rw [Int.mul_right_comm]
      _ = (u * (lowF 0 u d).2) * p.2 := by rw [he]
      _ = (u * p.2) * (lowF 0 u d).2 := by rw [Int.mul_right_comm]
      _ = (p.1 * d) * (lowF 0 u d).2 := by rw [h]
      _ = (p.1 * (lowF 0 u d).2) * d := by rw [Int.mul_right_comm]
  exact Int.eq_of_mul_eq_mul_right hd this
/-! ### wheels, over 1 -/
theorem low_one {g u : Int} (hg : 0 < g) : lowF g u 1 = (u.fmod g, 1) := by
  have h0 : 0 ≤ u.fmod g := Int.fmod_nonneg_of_pos u hg
  have h1 : u.fmod g < g := Int.fmod_lt_of_pos u hg
  have e : lowI g u 1 = some (u.fmod g).toNat := by
    unfold lowI
    rw [if_pos hg]
    refine List.find?_range_eq_some.mpr ⟨decide_eq_true ?_, List.mem_range.mpr (by omega), fun j hj => ?_⟩
    · rw [Int.mul_one, show (((u.fmod g).toNat : Nat) : Int) = u.fmod g by omega]
      rw [fmod_pos _ hg, fmod_pos _ hg]
      exact Int.emod_emod_of_dvd _ (Int.dvd_refl g)
    · have : ¬ ((j : Int) * 1).fmod g = u.fmod g := by
        rw [Int.mul_one, fmod_pos _ hg, Int.emod_eq_of_lt (by omega) (by omega)]
        omega
      rw [decide_eq_false this]
      rfl
  unfold lowF
  rw [e]
  show (((u.fmod g).toNat : Int), (1 : Int)) = _
  rw [show (((u.fmod g).toNat : Nat) : Int) = u.fmod g by omega]
/-! ### sums of products -/
def timesF (g : Int) (x y : Int × Int) : Int × Int := lowF g (x.1 * y.1) (x.2 * y.2)
def plusF (g : Int) (x y : Int × Int) : Int × Int := lowF g (x.1 * y.2 + y.1 * x.2) (x.2 * y.2)
theorem times_rel {x z : Int × Int} {t s B U : Int} (hx : x.2 ≠ 0) (hz : z.2 ≠ 0) (ht : t * x.2 = x.1 * B) (hs : s * z.2 = z.1 * U) : (timesF 0 x z).1 * (B * U) = t * s * (timesF 0 x z).2 := by
  have hn : x.2 * z.2 ≠ 0 := Int.mul_ne_zero hx hz
  have h := (low0_red (u := x.1 * z.1) hn).2
  have e : (timesF 0 x z).1 * (x.2 * z.2) = x.1 * z.1 * (timesF 0 x z).2 := h
  generalize timesF 0 x z = y at e
  have : (y.1 * (B * U)) * (x.2 * z.2) = (t * s * y.2) * (x.2 * z.2) := by
    calc (y.1 * (B * U)) * (x.2 * z.2) = (y.1 * (x.2 * z.2)) * (B * U) := by rw [Int.mul_right_comm]
      _ = (x.1 * z.1 * y.2) * (B * U) := by rw [e]
      _ = (x.1 * B) * (z.1 * U) * y.2 := by
        ac_rfl
      _ = (t * x.2) * (s * z.2) * y.2 := by rw [ht, hs]
      _ = (t * s * y.2) * (x.2 * z.2) := by
        ac_rfl
  exact Int.eq_of_mul_eq_mul_right hn this
theorem plus_rel {p y : Int × Int} {S T M : Int} (hp : p.2 ≠ 0) (hy : y.2 ≠ 0) (h1 : p.1 * M = S * p.2) (h2 : y.1 * M = T * y.2) : (plusF 0 p y).1 * M = (S + T) * (plusF 0 p y).2 := by
  have hn : p.2 * y.2 ≠ 0 := Int.mul_ne_zero hp hy
  have e : (plusF 0 p y).1 * (p.2 * y.2) = (p.1 * y.2 + y.1 * p.2) * (plusF 0 p y).2 := (low0_red (u := p.1 * y.2 + y.1 * p.2) hn).2
  generalize plusF 0 p y = z at e
  have : (z.1 * M) * (p.2 * y.2) = ((S + T) * z.2) * (p.2 * y.2) := by
    calc (z.1 * M) * (p.2 * y.2) = (z.1 * (p.2 * y.2)) * M := by rw [Int.mul_right_comm]
      _ = ((p.1 * y.2 + y.1 * p.2) * z.2) * M := by rw [e]
      _ = ((p.1 * M) * y.2 + (y.1 * M) * p.2) * z.2 := by
        rw [Int.mul_right_comm, Int.add_mul, Int.mul_right_comm p.1, Int.mul_right_comm y.1]
      _ = ((S * p.2) * y.2 + (T * y.2) * p.2) * z.2 := by rw [h1, h2]
      _ = ((S + T) * z.2) * (p.2 * y.2) := by
        rw [Int.mul_assoc S, Int.mul_assoc T, Int.mul_comm y.2 p.2, ← Int.add_mul, Int.mul_right_comm]
  exact Int.eq_of_mul_eq_mul_right hn this
/-! ### rows as whole numbers over one bottom -/
def dotF (ts ss : List Int) : Int := (List.zipWith (fun a b => a * b) ts ss).sum
def wrB (r : List (Int × Int)) : Int := r.foldl (fun b x => b.fdiv (Int.gcd b x.2 : Int) * x.2) 1
def wrT (r : List (Int × Int)) : List Int := r.map fun x => x.1 * (wrB r).fdiv x.2
theorem lcm_step {b c : Int} (hb : 0 < b) (hc : 0 < c) : 0 < b.fdiv (Int.gcd b c : Int) * c ∧ b ∣ b.fdiv (Int.gcd b c : Int) * c ∧ c ∣ b.fdiv (Int.gcd b c : Int) * c ∧ ∀ L, b ∣ L → c ∣ L → b.fdiv (Int.gcd b c : Int) * c ∣ L := by
  have hg : 0 < Int.gcd b c := Nat.pos_of_ne_zero fun z => by
    have := (Int.gcd_eq_zero_iff.mp z).2
    omega
  have hg' : (0 : Int) < (Int.gcd b c : Int) := by omega
  obtain ⟨q1, e1⟩ := Int.gcd_dvd_left b c
  obtain ⟨q2, e2⟩ := Int.gcd_dvd_right b c
  have f1 : b.fdiv (Int.gcd b c : Int) = q1 := by
    conv => lhs; lhs; rw [e1]
    exact Int.mul_fdiv_cancel_left _ (by omega)
  rw [f1]
  have hq1 : 0 < q1 := Int.pos_of_mul_pos_right (by rw [← e1]; exact hb) hg'
  have hcop : Int.gcd q1 q2 = 1 := by
    have h1 : Int.gcd ((Int.gcd b c : Int) * q1) ((Int.gcd b c : Int) * q2) = ((Int.gcd b c : Int)).natAbs * Int.gcd q1 q2 := Int.gcd_mul_left ..
    rw [← e1, ← e2, Int.natAbs_natCast] at h1
    have h2 : Int.gcd b c * 1 = Int.gcd b c * Int.gcd q1 q2 := by rw [Nat.mul_one]; exact h1
    exact (Nat.eq_of_mul_eq_mul_left hg h2).symm
  refine ⟨Int.mul_pos hq1 hc, ⟨q2, ?_⟩, ⟨q1, Int.mul_comm _ _⟩, fun L h1 h2 => ?_⟩
  · conv => lhs; rw [e2]
    conv => rhs; rw [e1]
    ac_rfl
  · obtain ⟨k1, hk1⟩ := h1
    obtain ⟨k2, hk2⟩ := h2
    have h3 : q1 * k1 = q2 * k2 := by
      have : (Int.gcd b c : Int) * (q1 * k1) = (Int.gcd b c : Int) * (q2 * k2) := by
        rw [← Int.mul_assoc, ← Int.mul_assoc, ← e1, ← e2, ← hk1, ← hk2]
      exact Int.eq_of_mul_eq_mul_left (by omega) this
    have h4 : q1 ∣ k2 := dvd_cop (a := q2) (by rw [Int.gcd_comm]; exact hcop) ⟨k1, by rw [← h3]⟩
    obtain ⟨k3, hk3⟩ := h4
    exact ⟨k3, by rw [hk2, hk3]; ac_rfl⟩
theorem wr_fold : ∀ (r : List (Int × Int)) (b : Int), 0 < b → (∀ x ∈ r, 0 < x.2) → 0 < r.foldl (fun b x => b.fdiv (Int.gcd b x.2 : Int) * x.2) b ∧ b ∣ r.foldl (fun b x => b.fdiv (Int.gcd b x.2 : Int) * x.2) b ∧ (∀ x ∈ r, x.2 ∣ r.foldl (fun b x => b.fdiv (Int.gcd b x.2 : Int) * x.2) b) ∧ ∀ L, b ∣ L → (∀ x ∈ r, x.2 ∣ L) → r.foldl (fun b x => b.fdiv (Int.gcd b x.2 : Int) * x.2) b ∣ L
  | [], b, hb, _ => ⟨hb, Int.dvd_refl b, fun x hx => (by cases hx), fun L h _ => h⟩
  | x :: r, b, hb, h => by
    obtain ⟨s1, s2, s3, s4⟩ := lcm_step hb (h x (List.mem_cons_self ..))
    obtain ⟨t1, t2, t3, t4⟩ := wr_fold r _ s1 fun y hy => h y (List.mem_cons_of_mem _ hy)
    rw [List.foldl_cons]
    refine ⟨t1, Int.dvd_trans s2 t2, fun y hy => ?_, fun L h1 h2 => ?_⟩
    · rcases List.mem_cons.mp hy with rfl | hy
      · exact Int.dvd_trans s3 t2
      · exact t3 y hy
    · exact t4 L (s4 L h1 (h2 x (List.mem_cons_self ..))) fun y hy => h2 y (List.mem_cons_of_mem _ hy)
theorem wrB_spec {r : List (Int × Int)} (h : ∀ x ∈ r, 0 < x.2) : 0 < wrB r ∧ (∀ x ∈ r, x.2 ∣ wrB r) ∧ ∀ L, (∀ x ∈ r, x.2 ∣ L) → wrB r ∣ L := by
  obtain ⟨h1, _, h3, h4⟩ := wr_fold r 1 (by decide) h
  exact ⟨h1, h3, fun L h => h4 L (Int.one_dvd L) h⟩
def RelL (B : Int) : List (Int × Int) → List Int → Prop
  | [], [] => True
  | x :: xs, t :: ts => (0 < x.2 ∧ t * x.2 = x.1 * B) ∧ RelL B xs ts
  | _, _ => False
theorem rel_of {B : Int} : ∀ {r : List (Int × Int)}, (∀ x ∈ r, 0 < x.2 ∧ x.2 ∣ B) → RelL B r (r.map fun x => x.1 * B.fdiv x.2)
  | [], _ => True.intro
  | x :: r, h => by
    obtain ⟨h1, k, hk⟩ := h x (List.mem_cons_self ..)
    refine ⟨⟨h1, ?_⟩, rel_of fun y hy => h y (List.mem_cons_of_mem _ hy)⟩
    have e : B.fdiv x.2 = k := by
      rw [hk]
      exact Int.mul_fdiv_cancel_left _ (by omega)
    show x.1 * B.fdiv x.2 * x.2 = x.1 * B
    rw [e, hk]
    ac_rfl
theorem wr_rel {r : List (Int × Int)} (h : ∀ x ∈ r, 0 < x.2) : RelL (wrB r) r (wrT r) := rel_of fun x hx => ⟨h x hx, (wrB_spec h).2.1 x hx⟩
def cellF (g : Int) (r s : List (Int × Int)) : Int × Int := (List.zipWith (timesF g) r s).foldl (plusF g) (0, 1)
theorem cell_fold {B U : Int} : ∀ (xs zs : List (Int × Int)) (ts ss : List Int) (p : Int × Int) (S : Int), Red p → p.1 * (B * U) = S * p.2 → RelL B xs ts → RelL U zs ss → Red ((List.zipWith (timesF 0) xs zs).foldl (plusF 0) p) ∧ ((List.zipWith (timesF 0) xs zs).foldl (plusF 0) p).1 * (B * U) = (S + dotF ts ss) * ((List.zipWith (timesF 0) xs zs).foldl (plusF 0) p).2
  | [], zs, ts, ss, p, S, hp, h, h1, _ => by
    cases ts with
    | nil => exact ⟨hp, by simp only [List.zipWith_nil_left, List.foldl_nil, dotF, List.sum_nil, Int.add_zero]; exact h⟩
    | cons t ts => exact h1.elim
  | x :: xs, [], ts, ss, p, S, hp, h, _, h2 => by
    cases ss with
    | nil => exact ⟨hp, by simp only [List.zipWith_nil_right, List.foldl_nil, dotF, List.sum_nil, Int.add_zero]; exact h⟩
    | cons t ts => exact h2.elim
  | x :: xs, z :: zs, [], ss, p, S, hp, h, h1, _ => h1.elim
  | x :: xs, z :: zs, t :: ts, [], p, S, hp, h, _, h2 => h2.elim
  | x :: xs, z :: zs, t :: ts, s :: ss, p, S, hp, h, h1, h2 => by
    obtain ⟨⟨hx, ht⟩, h1⟩ := h1
    obtain ⟨⟨hz, hs⟩, h2⟩ := h2
    have hxz : x.2 * z.2 ≠ 0 := Int.mul_ne_zero (by omega) (by omega)
    have hT := (low0_red (u := x.1 * z.1) hxz).1
    have e1 := times_rel (x := x) (z := z) (t := t) (s := s) (B := B) (U := U) (by omega) (by omega) ht hs
    have hy : 0 < (timesF 0 x z).2 := hT.1
    have e2 := plus_rel (p := p) (y := timesF 0 x z) (M := B * U) (by have := hp.1; omega) (by omega) h e1
    have hR : Red (plusF 0 p (timesF 0 x z)) := (low0_red (Int.mul_ne_zero (by have := hp.1; omega) (by omega))).1
    have ih := cell_fold xs zs ts ss _ _ hR e2 h1 h2
    rw [List.zipWith_cons_cons, List.foldl_cons]
    refine ⟨ih.1, ?_⟩
    rw [ih.2]
    simp only [dotF, List.zipWith_cons_cons, List.sum_cons]
    rw [Int.add_assoc]
theorem cell_zero {r s : List (Int × Int)} (hr : ∀ x ∈ r, 0 < x.2) (hs : ∀ x ∈ s, 0 < x.2) : cellF 0 r s = lowF 0 (dotF (wrT r) (wrT s)) (wrB r * wrB s) := by
  have hB := (wrB_spec hr).1
  have hU := (wrB_spec hs).1
  have h := cell_fold r s (wrT r) (wrT s) (0, 1) 0 ⟨by decide, by decide⟩ (by simp) (wr_rel hr) (wr_rel hs)
  rw [Int.zero_add] at h
  exact (low0_uniq h.1 (Int.mul_ne_zero (by omega) (by omega)) h.2).symm
/-! ### the same on wheels -/
theorem fmod_add {g a b : Int} (hg : 0 < g) : (a.fmod g + b).fmod g = (a + b).fmod g := by
  rw [fmod_pos _ hg, fmod_pos _ hg, fmod_pos _ hg, Int.emod_add_emod]
theorem fmod_add2 {g a b : Int} (hg : 0 < g) : (a + b.fmod g).fmod g = (a + b).fmod g := by
  rw [fmod_pos _ hg, fmod_pos _ hg, fmod_pos _ hg, Int.add_emod_emod]
theorem cell_wheel_fold {g : Int} (hg : 0 < g) : ∀ (xs zs : List (Int × Int)) (S : Int), (∀ x ∈ xs, x.2 = 1) → (∀ x ∈ zs, x.2 = 1) → (List.zipWith (timesF g) xs zs).foldl (plusF g) (S.fmod g, 1) = ((S + dotF (xs.map (·.1)) (zs.map (·.1))).fmod g, 1)
  | [], zs, S, _, _ => by simp [dotF]
  | x :: xs, [], S, _, _ => by simp [dotF]
  | x :: xs, z :: zs, S, h1, h2 => by
    have e1 := h1 x (List.mem_cons_self ..)
    have e2 := h2 z (List.mem_cons_self ..)
    have et : timesF g x z = ((x.1 * z.1).fmod g, 1) := by
      unfold timesF
      rw [e1, e2, Int.mul_one, low_one hg]
    have ep : plusF g (S.fmod g, 1) (timesF g x z) = ((S + x.1 * z.1).fmod g, 1) := by
      unfold plusF
      rw [et]
      show lowF g (S.fmod g * 1 + (x.1 * z.1).fmod g * 1) (1 * 1) = _
      rw [Int.mul_one, Int.mul_one, Int.mul_one, low_one hg, fmod_add hg, fmod_add2 hg]
    rw [List.zipWith_cons_cons, List.foldl_cons, ep, cell_wheel_fold hg xs zs _ (fun y hy => h1 y (List.mem_cons_of_mem _ hy)) (fun y hy => h2 y (List.mem_cons_of_mem _ hy))]
    simp only [dotF, List.map_cons, List.zipWith_cons_cons, List.sum_cons]
    rw [Int.add_assoc]
theorem wrB_one : ∀ {r : List (Int × Int)}, (∀ x ∈ r, x.2 = 1) → wrB r = 1 := by
  intro r
  unfold wrB
  induction r with
  | nil => intro _; rfl
  | cons x r ih =>
    intro h
    rw [List.foldl_cons, h x (List.mem_cons_self ..)]
    show r.foldl _ ((1 : Int).fdiv (Int.gcd 1 1 : Int) * 1) = 1
    have e : (1 : Int).fdiv (Int.gcd 1 1 : Int) * 1 = 1 := by decide
    rw [e]
    exact ih fun y hy => h y (List.mem_cons_of_mem _ hy)
theorem wrT_one {r : List (Int × Int)} (h : ∀ x ∈ r, x.2 = 1) : wrT r = r.map (·.1) := by
  unfold wrT
  rw [wrB_one h]
  refine List.map_congr_left fun x hx => ?_
  rw [h x hx]
  show x.1 * (1 : Int).fdiv 1 = x.1
  rw [show (1 : Int).fdiv 1 = 1 from by decide, Int.mul_one]
theorem cell_eq {g : Int} {r s : List (Int × Int)} (h : (g = 0 ∧ (∀ x ∈ r, 0 < x.2) ∧ ∀ x ∈ s, 0 < x.2) ∨ (0 < g ∧ (∀ x ∈ r, x.2 = 1) ∧ ∀ x ∈ s, x.2 = 1)) : cellF g r s = lowF g (dotF (wrT r) (wrT s)) (wrB r * wrB s) := by
  rcases h with ⟨rfl, h1, h2⟩ | ⟨hg, h1, h2⟩
  · exact cell_zero h1 h2
  · rw [wrB_one h1, wrB_one h2, wrT_one h1, wrT_one h2, Int.mul_one, low_one hg]
    have h := cell_wheel_fold hg r s 0 h1 h2
    have e0 : (0 : Int).fmod g = 0 := by rw [fmod_pos _ hg]; exact Int.zero_emod g
    rw [e0, Int.zero_add] at h
    exact h
end Fm

namespace Fm
open PySem PySem.Spec PyProof.Rows L2
def rTupOf (K : PySem.W.Frag) : List V → Hp → VK → Prop := fun xs H Q => ∃ p ys, xs = [.ref p] ∧ ((SqL K H p ys ∧ ∀ l, H l = none → Q (.ref l) (upd H l (.tup ys))) ∨ (SqT K H p ys ∧ Q (.ref p) H))
theorem call_tupOf {X : Cx} : CallR X (.type "tuple") (rTupOf X.K) := call_tuple_of
theorem w_tupOf2 {K : PySem.W.Frag} {H : Hp} {Q : VK} {p : Addr} {ys : List V} (h : H p = some (.lst ys)) (q : NewO (.tup ys) H Q) : rTupOf K [.ref p] H Q := ⟨p, ys, rfl, .inl ⟨SqL.of h, q⟩⟩
theorem fmod_mul {g a b : Int} (hg : 0 < g) : (a.fmod g * b).fmod g = (a * b).fmod g := by
  rw [fmod_pos _ hg, fmod_pos _ hg, fmod_pos _ hg, Int.mul_emod, Int.emod_emod_of_dvd _ (Int.dvd_refl g), ← Int.mul_emod]
theorem fmod_mul2 {g a b : Int} (hg : 0 < g) : (a * b.fmod g).fmod g = (a * b).fmod g := by
  rw [Int.mul_comm, fmod_mul hg, Int.mul_comm]
theorem fmod_of_lt {g a : Int} (h0 : 0 ≤ a) (h1 : a < g) : a.fmod g = a := by
  rw [fmod_pos _ (by omega), Int.emod_eq_of_lt h0 h1]
/-- over what has a back on the wheel -/
theorem low_inv {g u d f : Int} (hg : 0 < g) (hf : (f * d).fmod g = 1) : lowF g u d = ((u * f).fmod g, 1) := by
  have h0 : 0 ≤ (u * f).fmod g := Int.fmod_nonneg_of_pos _ hg
  have h1 : (u * f).fmod g < g := Int.fmod_lt_of_pos _ hg
  have ee : ∀ z : Int, (z * (f * d)).fmod g = z.fmod g := fun z => by
    rw [← fmod_mul2 hg, hf, Int.mul_one]
  have e : lowI g u d = some ((u * f).fmod g).toNat := by
    unfold lowI
    rw [if_pos hg]
    refine List.find?_range_eq_some.mpr ⟨decide_eq_true ?_, List.mem_range.mpr (by omega), fun j hj => ?_⟩
    · rw [show ((((u * f).fmod g).toNat : Nat) : Int) = (u * f).fmod g by omega, fmod_mul hg, Int.mul_assoc]
      exact ee u
    · have : ¬ ((j : Int) * d).fmod g = u.fmod g := fun z => by
        have h2 : ((j : Int) * d * f).fmod g = (u * f).fmod g := by
          rw [← fmod_mul hg, z, fmod_mul hg]
        have h3 : ((j : Int) * d * f).fmod g = (j : Int) := by
          rw [Int.mul_assoc, Int.mul_comm d f, ee, fmod_of_lt (by omega) (by omega)]
        omega
      rw [decide_eq_false this]
      rfl
  unfold lowF
  rw [e]
  show ((((u * f).fmod g).toNat : Int), (1 : Int)) = _
  rw [show ((((u * f).fmod g).toNat : Nat) : Int) = (u * f).fmod g by omega]
/-- a number of a ground, of less than k bits -/
def OkN (g : Int) (k : Nat) (a : Int × Int) : Prop := a.1.natAbs < 2 ^ k ∧ a.2.natAbs < 2 ^ k ∧ ((g = 0 ∧ 0 < a.2) ∨ (3 ≤ g ∧ g ≤ 13 ∧ a.2 = 1))
theorem OkN.pos {g : Int} {k : Nat} {a : Int × Int} (h : OkN g k a) : 0 < a.2 := by
  rcases h.2.2 with h | h
  · exact h.2
  · omega
theorem step_le {b c : Int} {k m : Nat} (hb : 0 < b) (hc : 0 < c) (h1 : b.natAbs ≤ 2 ^ m) (h2 : c.natAbs < 2 ^ k) : (b.fdiv (Int.gcd b c : Int) * c).natAbs ≤ 2 ^ (m + k) ∧ (b.fdiv (Int.gcd b c : Int)).natAbs ≤ 2 ^ m ∧ (Int.gcd b c : Int) ≠ 0 ∧ ((Int.gcd b c : Int)).natAbs < 2 ^ k := by
  have hg : 0 < Int.gcd b c := Nat.pos_of_ne_zero fun z => by
    have := (Int.gcd_eq_zero_iff.mp z).2
    omega
  have hle : (b.fdiv (Int.gcd b c : Int)).natAbs ≤ b.natAbs := by
    obtain ⟨q, e⟩ := Int.gcd_dvd_left b c
    have f1 : b.fdiv (Int.gcd b c : Int) = q := by
      conv => lhs; lhs; rw [e]
      exact Int.mul_fdiv_cancel_left _ (by omega)
    rw [f1]
    have := natAbs_fac (c := (Int.gcd b c : Int)) (q := q) (by omega)
    rw [← e] at this
    exact this
  have hgc : (Int.gcd b c : Int) ≤ c := Int.le_of_dvd hc (Int.gcd_dvd_right b c)
  refine ⟨?_, Nat.le_trans hle h1, by omega, by omega⟩
  rw [Int.natAbs_mul, Nat.pow_add]
  exact Nat.mul_le_mul (Nat.le_trans hle h1) (Nat.le_of_lt h2)
theorem wrB_take {r : List (Int × Int)} {i : Nat} {x : Int × Int} (h : r[i]? = some x) : wrB (r.take (i + 1)) = (wrB (r.take i)).fdiv (Int.gcd (wrB (r.take i)) x.2 : Int) * x.2 := by
  unfold wrB
  rw [List.take_add_one, h]
  simp [List.foldl_append]
theorem wrB_le {k : Nat} : ∀ (r : List (Int × Int)) (b : Int) (m : Nat), 0 < b → b.natAbs ≤ 2 ^ m → (∀ x ∈ r, 0 < x.2 ∧ x.2.natAbs < 2 ^ k) → (r.foldl (fun b x => b.fdiv (Int.gcd b x.2 : Int) * x.2) b).natAbs ≤ 2 ^ (m + k * r.length)
  | [], b, m, _, h, _ => by simpa using h
  | x :: r, b, m, hb, h, hr => by
    have hx := hr x (List.mem_cons_self ..)
    have s := step_le hb hx.1 h hx.2
    rw [List.foldl_cons]
    have := wrB_le r _ (m + k) (lcm_step hb hx.1).1 s.1 fun y hy => hr y (List.mem_cons_of_mem _ hy)
    rw [show m + k * (x :: r).length = m + k + k * r.length by rw [List.length_cons, Nat.mul_succ]; omega]
    exact this
theorem wrB_bd {k : Nat} {r : List (Int × Int)} (h : ∀ x ∈ r, 0 < x.2 ∧ x.2.natAbs < 2 ^ k) : (wrB r).natAbs ≤ 2 ^ (k * r.length) := by
  have := wrB_le r 1 0 (by decide) (by decide) h
  rw [Nat.zero_add] at this
  exact this
theorem w_aug {i : Nat} {te : TE} {ti : TIp} {D : Ends} {σ : L2.St} {H : Hp} {x : V} (h : σ[i]? = some (some x)) (q : te σ H fun y H1 => ti x y H1 fun z H2 => D.nx (σ.set i (some z)) H2) : tAug i te ti D σ H := ⟨x, h, q⟩
/-- a row as whole numbers over one bottom, as an object -/
def WR (H : Hp) (v : V) (ts : List Int) (B : Int) : Prop := ∃ p L, v = .ref p ∧ H p = some (.tup [.ref L, .int B]) ∧ H L = some (.lst (ts.map V.int))
theorem WR.sm {H H' : Hp} {v : V} {ts : List Int} {B : Int} (h : WR H v ts B) (s : Same H H') : WR H' v ts B := by
  obtain ⟨p, L, e, h1, h2⟩ := h
  exact ⟨p, L, e, s _ _ h1, s _ _ h2⟩
theorem wrT_bd {g : Int} {k : Nat} {r : List (Int × Int)} (h : ∀ x ∈ r, OkN g k x) : ∀ t ∈ wrT r, t.natAbs ≤ 2 ^ (k + k * r.length) := by
  intro t ht
  obtain ⟨x, hx, rfl⟩ := List.mem_map.mp ht
  have hp : ∀ x ∈ r, 0 < x.2 := fun x hx => (h x hx).pos
  have hB := wrB_bd (k := k) (r := r) fun x hx => ⟨hp x hx, (h x hx).2.1⟩
  obtain ⟨q, e⟩ := (wrB_spec hp).2.1 x hx
  have f1 : (wrB r).fdiv x.2 = q := by
    rw [e]
    exact Int.mul_fdiv_cancel_left _ (by have := hp x hx; omega)
  rw [f1, Int.natAbs_mul, Nat.pow_add]
  have h2 := natAbs_fac (c := x.2) (q := q) (by have := hp x hx; omega)
  rw [← e] at h2
  exact Nat.mul_le_mul (Nat.le_of_lt (h x hx).1) (Nat.le_trans h2 hB)
theorem le_lt {a : Int} {k m : Nat} (h : a.natAbs ≤ 2 ^ k) (hk : k < m) : a.natAbs < 2 ^ m := Nat.lt_of_le_of_lt h (Nat.pow_lt_pow_right (by decide) hk)
theorem mulW_le {a b : Int} {k m : Nat} (h1 : a.natAbs ≤ 2 ^ k) (h2 : b.natAbs ≤ 2 ^ m) (hk : k + m ≤ 100000) : CMulW a b := wide_mul (a := k + 1) (b := m + 1) (le_lt h1 (by omega)) (le_lt h2 (by omega)) (by omega) (by omega) (by omega)
/-! ### what is gathered, item by item -/
def Acc {α : Type} (P : Hp → V → α → Prop) (H : Hp) (ys : List V) (as : List α) (i : Nat) : Prop := ys.length = i ∧ ∀ (j : Nat) (x : V) (a : α), ys[j]? = some x → as[j]? = some a → P H x a
theorem Acc.nil {α : Type} {P : Hp → V → α → Prop} {H : Hp} {as : List α} : Acc P H [] as 0 := ⟨rfl, fun j x a h _ => by simp at h⟩
theorem Acc.mono {α : Type} {P : Hp → V → α → Prop} {H H' : Hp} {ys : List V} {as : List α} {i : Nat} (h : Acc P H ys as i) (f : ∀ x a, P H x a → P H' x a) : Acc P H' ys as i := ⟨h.1, fun j x a h1 h2 => f x a (h.2 j x a h1 h2)⟩
theorem Acc.snoc {α : Type} {P : Hp → V → α → Prop} {H : Hp} {ys : List V} {as : List α} {i : Nat} {v : V} {a : α} (h : Acc P H ys as i) (ha : as[i]? = some a) (hv : P H v a) : Acc P H (ys ++ [v]) as (i + 1) := by
  refine ⟨by rw [List.length_append, h.1]; rfl, fun j x b h1 h2 => ?_⟩
  by_cases hj : j < ys.length
  · rw [List.getElem?_append_left hj] at h1
    exact h.2 j x b h1 h2
  · rw [List.getElem?_append_right (by omega)] at h1
    have e : j - ys.length = 0 := by
      have := (List.getElem?_eq_some_iff.mp h1).1
      rw [List.length_singleton] at this
      omega
    rw [e] at h1
    cases Option.some.inj h1
    have e2 : j = i := by have := h.1; omega
    rw [e2, ha] at h2
    cases Option.some.inj h2
    exact hv
theorem Acc.sq {α : Type} {P : Hp → V → α → Prop} {H : Hp} {ys : List V} {as : List α} {i : Nat} {p : Addr} (h : Acc P H ys as i) (hi : i = as.length) (hp : H p = some (.tup ys)) : SqV P H (.ref p) as := ⟨p, ys, rfl, hp, by rw [h.1, hi], h.2⟩
/-- such a row whose list is another one than the one at D -/
def WRn (D : Addr) (H : Hp) (v : V) (s : List (Int × Int)) : Prop := ∃ p L, v = .ref p ∧ L ≠ D ∧ H p = some (.tup [.ref L, .int (wrB s)]) ∧ H L = some (.lst ((wrT s).map V.int))
theorem WRn.sm {D : Addr} {H H' : Hp} {v : V} {s : List (Int × Int)} (h : WRn D H v s) (e : Same H H') : WRn D H' v s := by
  obtain ⟨p, L, e1, n, h1, h2⟩ := h
  exact ⟨p, L, e1, n, e _ _ h1, e _ _ h2⟩
theorem WRn.upd {D : Addr} {H : Hp} {v : V} {s : List (Int × Int)} {xs : List V} {o : HO} (h : WRn D H v s) (hD : H D = some (.lst xs)) : WRn D (upd H D o) v s := by
  obtain ⟨p, L, e1, n, h1, h2⟩ := h
  exact ⟨p, L, e1, n, Kt.updL hD _ _ h1, by rw [upd_ne n]; exact h2⟩
theorem dot_bd {m : Nat} : ∀ {ts ss : List Int}, (∀ t ∈ ts, t.natAbs ≤ 2 ^ m) → (∀ t ∈ ss, t.natAbs ≤ 2 ^ m) → (dotF ts ss).natAbs ≤ ts.length * 2 ^ (m + m)
  | [], ss, _, _ => by simp [dotF]
  | t :: ts, [], _, _ => by simp [dotF]
  | t :: ts, s :: ss, h1, h2 => by
    have ih := dot_bd (ts := ts) (ss := ss) (fun y hy => h1 y (List.mem_cons_of_mem _ hy)) (fun y hy => h2 y (List.mem_cons_of_mem _ hy))
    have e : dotF (t :: ts) (s :: ss) = t * s + dotF ts ss := by simp [dotF]
    have h3 : (t * s).natAbs ≤ 2 ^ (m + m) := by
      rw [Int.natAbs_mul, Nat.pow_add]
      exact Nat.mul_le_mul (h1 t (List.mem_cons_self ..)) (h2 s (List.mem_cons_self ..))
    rw [e, List.length_cons, Nat.succ_mul]
    omega
def turnF (l : Nat) (t : List (List (Int × Int))) : List (List (Int × Int)) := (List.range l).map fun j => t.map fun row => row.getD j (0, 1)
theorem turn_at {l j : Nat} {t : List (List (Int × Int))} (h : j < l) : (turnF l t)[j]? = some (t.map fun row => row.getD j (0, 1)) := by
  unfold turnF
  rw [List.getElem?_map, List.getElem?_range h]
  rfl
theorem wrT_len (r : List (Int × Int)) : (wrT r).length = r.length := by
  unfold wrT
  rw [List.length_map]
theorem cell_is {g : Int} {k : Nat} {r s : List (Int × Int)} (hg : g = 0 ∨ (3 ≤ g ∧ g ≤ 13)) (hr : ∀ x ∈ r, OkN g k x) (hs : ∀ x ∈ s, OkN g k x) : cellF g r s = lowF g (dotF (wrT r) (wrT s)) (wrB r * wrB s) := by
  refine cell_eq ?_
  rcases hg with rfl | ⟨h3, h13⟩
  · exact .inl ⟨rfl, fun x h => (hr x h).pos, fun x h => (hs x h).pos⟩
  · refine .inr ⟨by omega, fun x h => ?_, fun x h => ?_⟩
    · rcases (hr x h).2.2 with z | z
      · omega
      · exact z.2.2
    · rcases (hs x h).2.2 with z | z
      · omega
      · exact z.2.2
end Fm

namespace Fm
open PySem PySem.Spec PyProof.Rows L2
/-! ### things of some depth, their whole numbers of less than k bits -/
def AtB (k : Nat) : V → Prop
  | .int i => i.natAbs < 2 ^ k
  | .non => True
  | .bl _ => True
  | .str _ => True
  | _ => False
theorem AtB.atom {k : Nat} {v : V} (h : AtB k v) : atomB v = true := by
  cases v <;> first | rfl | cases h
def IsL (H : Hp) (v : V) : Prop := ∃ p xs, v = .ref p ∧ H p = some (.lst xs)
def TB (k : Nat) : Nat → Hp → V → Prop
  | 0, H, v => AtB k v ∨ IsL H v
  | n + 1, H, v => AtB k v ∨ IsL H v ∨ ∃ p xs, v = .ref p ∧ H p = some (.tup xs) ∧ xs.length ≤ 100 ∧ ∀ x ∈ xs, TB k n H x
theorem IsL.kd {H H' : Hp} {v : V} (h : IsL H v) (e : Kd H H') : IsL H' v := by
  obtain ⟨p, xs, e1, h1⟩ := h
  obtain ⟨ys, h2⟩ := e.2 p xs h1
  exact ⟨p, ys, e1, h2⟩
theorem TB.kd {k : Nat} {H H' : Hp} (e : Kd H H') : ∀ {n : Nat} {v : V}, TB k n H v → TB k n H' v
  | 0, v, h => by
    rcases h with h | h
    · exact .inl h
    · exact .inr (h.kd e)
  | n + 1, v, h => by
    rcases h with h | h | ⟨p, xs, e1, h1, hz, hx⟩
    · exact .inl h
    · exact .inr (.inl (h.kd e))
    · exact .inr (.inr ⟨p, xs, e1, e.1 _ _ h1, hz, fun x m => TB.kd e (hx x m)⟩)
theorem TB.up {k : Nat} {H : Hp} : ∀ {n : Nat} {v : V}, TB k n H v → TB k (n + 1) H v
  | 0, v, h => by
    rcases h with h | h
    · exact .inl h
    · exact .inr (.inl h)
  | n + 1, v, h => by
    rcases h with h | h | ⟨p, xs, e1, h1, hz, hx⟩
    · exact .inl h
    · exact .inr (.inl h)
    · exact .inr (.inr ⟨p, xs, e1, h1, hz, fun x m => TB.up (hx x m)⟩)
theorem TB.wide {k l : Nat} {H : Hp} (hl : k ≤ l) : ∀ {n : Nat} {v : V}, TB k n H v → TB l n H v
  | 0, v, h => by
    rcases h with h | h
    · left; cases v <;> first | exact Nat.lt_of_lt_of_le h (Nat.pow_le_pow_right (by decide) hl) | exact h
    · exact .inr h
  | n + 1, v, h => by
    rcases h with h | h | ⟨p, xs, e1, h1, hz, hx⟩
    · left; cases v <;> first | exact Nat.lt_of_lt_of_le h (Nat.pow_le_pow_right (by decide) hl) | exact h
    · exact .inr (.inl h)
    · exact .inr (.inr ⟨p, xs, e1, h1, hz, fun x m => TB.wide hl (hx x m)⟩)
theorem TB.tup {k n : Nat} {H : Hp} {p : Addr} {xs : List V} (h : H p = some (.tup xs)) (hz : xs.length ≤ 100) (hx : ∀ x ∈ xs, TB k n H x) : TB k (n + 1) H (.ref p) := .inr (.inr ⟨p, xs, rfl, h, hz, hx⟩)
theorem TB.lst {k n : Nat} {H : Hp} {p : Addr} {xs : List V} (h : H p = some (.lst xs)) : TB k n H (.ref p) := by
  cases n with
  | zero => exact .inr ⟨p, xs, rfl, h⟩
  | succ n => exact .inr (.inl ⟨p, xs, rfl, h⟩)
theorem TB.at {k n : Nat} {H : Hp} {v : V} (h : AtB k v) : TB k n H v := by
  cases n with
  | zero => exact .inl h
  | succ n => exact .inl h
/-- its kind is known -/
def Tv (H : Hp) (v : V) : Prop := atomB v = true ∨ IsL H v ∨ ∃ p xs, v = .ref p ∧ H p = some (.tup xs)
theorem TB.tv {k n : Nat} {H : Hp} {v : V} (h : TB k n H v) : Tv H v := by
  cases n with
  | zero =>
    rcases h with h | h
    · exact .inl h.atom
    · exact .inr (.inl h)
  | succ n =>
    rcases h with h | h | ⟨p, xs, e1, h1, _⟩
    · exact .inl h.atom
    · exact .inr (.inl h)
    · exact .inr (.inr ⟨p, xs, e1, h1⟩)
theorem Tv.ty {K : PySem.W.Frag} {H : Hp} {v : V} (h : Tv H v) : TyX K H v (.type (tyN H v)) := by
  rcases h with h | ⟨p, xs, rfl, h⟩ | ⟨p, xs, rfl, h⟩
  · cases v with
    | non => exact .base .non
    | bl b => exact .base (.bl b)
    | int i => exact .base (.int i)
    | str z => exact .base (.str z)
    | _ => cases h
  · have e : tyN H (.ref p) = "list" := by show tyAt (H p) = _; rw [h]; rfl
    rw [e]
    exact .base (.lst h)
  · have e : tyN H (.ref p) = "tuple" := by show tyAt (H p) = _; rw [h]; rfl
    rw [e]
    exact .base (.tup h)
theorem tv_int {K : PySem.W.Frag} {H : Hp} {Q : VK} {v : V} (h : Tv H v) (q : Q (.bl (intB v)) H) : rIsi K [v, .ty "int"] H Q := by
  refine isi_is h.ty ?_ q
  rcases h with h | ⟨p, xs, rfl, h⟩ | ⟨p, xs, rfl, h⟩
  · cases v with
    | non => show kitB "NoneType" "int" = some false; decide +kernel
    | bl b => show kitB "bool" "int" = some true; decide +kernel
    | int i => show kitB "int" "int" = some true; decide +kernel
    | str z => show kitB "str" "int" = some false; decide +kernel
    | _ => cases h
  · show kitB (tyAt (H p)) _ = _; rw [h]; show kitB "list" "int" = some false; decide +kernel
  · show kitB (tyAt (H p)) _ = _; rw [h]; show kitB "tuple" "int" = some false; decide +kernel
theorem tv_bool {K : PySem.W.Frag} {H : Hp} {Q : VK} {v : V} (h : Tv H v) (q : Q (.bl (blB v)) H) : rIsi K [v, .ty "bool"] H Q := by
  refine isi_is h.ty ?_ q
  rcases h with h | ⟨p, xs, rfl, h⟩ | ⟨p, xs, rfl, h⟩
  · cases v with
    | non => show kitB "NoneType" "bool" = some false; decide +kernel
    | bl b => show kitB "bool" "bool" = some true; decide +kernel
    | int i => show kitB "int" "bool" = some false; decide +kernel
    | str z => show kitB "str" "bool" = some false; decide +kernel
    | _ => cases h
  · show kitB (tyAt (H p)) _ = _; rw [h]; show kitB "list" "bool" = some false; decide +kernel
  · show kitB (tyAt (H p)) _ = _; rw [h]; show kitB "tuple" "bool" = some false; decide +kernel
/-- what is no tuple -/
def NoTup (H : Hp) (v : V) : Prop := ∀ p xs, v = .ref p → H p ≠ some (.tup xs)
theorem tb_tup {K : PySem.W.Frag} {k n : Nat} {H : Hp} {Q : VK} {v : V} (h : TB k (n + 1) H v) (q1 : ∀ p xs, v = .ref p → H p = some (.tup xs) → xs.length ≤ 100 → (∀ x ∈ xs, TB k n H x) → Q (.bl true) H) (q2 : NoTup H v → Q (.bl false) H) : rIsi K [v, .ty "tuple"] H Q := by
  have h' := h.tv
  rcases h with h | ⟨p, xs, rfl, h⟩ | ⟨p, xs, rfl, h, hz, hx⟩
  · have ha := h.atom
    refine isi_is h'.ty (b := false) ?_ (q2 fun p xs e => ?_)
    · cases v with
      | non => show kitB "NoneType" "tuple" = some false; decide +kernel
      | bl b => show kitB "bool" "tuple" = some false; decide +kernel
      | int i => show kitB "int" "tuple" = some false; decide +kernel
      | str z => show kitB "str" "tuple" = some false; decide +kernel
      | _ => cases ha
    · rw [e] at ha
      cases ha
  · refine isi_is h'.ty (b := false) ?_ (q2 fun p' xs' e => ?_)
    · show kitB (tyAt (H p)) _ = _; rw [h]; show kitB "list" "tuple" = some false; decide +kernel
    · cases e
      rw [h]
      intro z
      cases z
  · refine isi_is h'.ty (b := true) ?_ (q1 p xs rfl h hz hx)
    show kitB (tyAt (H p)) _ = _; rw [h]; show kitB "tuple" "tuple" = some true; decide +kernel
theorem numOf_no {H : Hp} {g : Int} {v : V} (h : NoTup H v) : numOf H g v = false := by
  cases v with
  | ref p =>
    show numAt g (H p) = false
    cases e : H p with
    | none => rfl
    | some o =>
      cases o with
      | tup xs => exact absurd e (h p xs rfl)
      | _ => rfl
  | _ => rfl
theorem numOf_tb {k n : Nat} {H H' : Hp} {g : Int} {v : V} (h0 : TB k n H v) (e : Kd H H') : numOf H' g v = numOf H g v := by
  rcases h0.tv with h | ⟨p, xs, rfl, h⟩ | ⟨p, xs, rfl, h⟩
  · cases v <;> first | rfl | cases h
  · obtain ⟨ys, h2⟩ := e.2 p xs h
    rw [numOf_lst h, numOf_lst h2]
  · rw [numOf_tup h, numOf_tup (e.1 _ _ h)]
/-! ### rows and tables among things -/
def rowAt (H : Hp) (g m : Int) : Option HO → Bool
  | some (.tup xs) => decide ((xs.length : Int) = m) && xs.all (numOf H g)
  | _ => false
def rowOf (H : Hp) (g m : Int) : V → Bool
  | .ref p => rowAt H g m (H p)
  | _ => false
theorem rowOf_tup {H : Hp} {g m : Int} {p : Addr} {xs : List V} (h : H p = some (.tup xs)) : rowOf H g m (.ref p) = (decide ((xs.length : Int) = m) && xs.all (numOf H g)) := by
  show rowAt H g m (H p) = _
  rw [h]
  rfl
theorem rowOf_no {H : Hp} {g m : Int} {v : V} (h : NoTup H v) : rowOf H g m v = false := by
  cases v with
  | ref p =>
    show rowAt H g m (H p) = false
    cases e : H p with
    | none => rfl
    | some o =>
      cases o with
      | tup xs => exact absurd e (h p xs rfl)
      | _ => rfl
  | _ => rfl
theorem all_congr {f f' : V → Bool} : ∀ {xs : List V}, (∀ x ∈ xs, f' x = f x) → xs.all f' = xs.all f
  | [], _ => rfl
  | x :: xs, h => by
    rw [List.all_cons, List.all_cons, h x (List.mem_cons_self ..), all_congr fun y hy => h y (List.mem_cons_of_mem _ hy)]
theorem notup_kd {k n : Nat} {H H' : Hp} {v : V} (h0 : TB k n H v) (no : NoTup H v) (e : Kd H H') : NoTup H' v := by
  rcases h0.tv with h | ⟨p, xs, rfl, h⟩ | ⟨p, xs, rfl, h⟩
  · intro p xs z
    rw [z] at h
    cases h
  · obtain ⟨ys, h2⟩ := e.2 p xs h
    intro p' xs' z
    cases z
    rw [h2]
    intro z
    cases z
  · exact absurd h (no p xs rfl)
theorem tb_cases {k n : Nat} {H : Hp} {v : V} (h : TB k (n + 1) H v) : NoTup H v ∨ ∃ p xs, v = .ref p ∧ H p = some (.tup xs) ∧ xs.length ≤ 100 ∧ ∀ x ∈ xs, TB k n H x := by
  rcases h with h | ⟨p, xs, rfl, h⟩ | h
  · left
    intro p xs e
    have ha := h.atom
    rw [e] at ha
    cases ha
  · left
    intro p' xs' e
    cases e
    rw [h]
    intro z
    cases z
  · exact .inr h
theorem rowOf_tb {k n : Nat} {H H' : Hp} {g m : Int} {v : V} (h : TB k (n + 1) H v) (e : Kd H H') : rowOf H' g m v = rowOf H g m v := by
  rcases tb_cases h with no | ⟨p, xs, rfl, hp, hz, hx⟩
  · rw [rowOf_no no, rowOf_no (notup_kd h no e)]
  · rw [rowOf_tup hp, rowOf_tup (e.1 _ _ hp), all_congr fun x m => numOf_tb (hx x m) e]
def tabAt (H : Hp) (g m w : Int) : Option HO → Bool
  | some (.tup xs) => decide ((xs.length : Int) = m) && xs.all (rowOf H g w)
  | _ => false
def tabOf (H : Hp) (g m w : Int) : V → Bool
  | .ref p => tabAt H g m w (H p)
  | _ => false
theorem tabOf_tup {H : Hp} {g m w : Int} {p : Addr} {xs : List V} (h : H p = some (.tup xs)) : tabOf H g m w (.ref p) = (decide ((xs.length : Int) = m) && xs.all (rowOf H g w)) := by
  show tabAt H g m w (H p) = _
  rw [h]
  rfl
theorem tabOf_no {H : Hp} {g m w : Int} {v : V} (h : NoTup H v) : tabOf H g m w v = false := by
  cases v with
  | ref p =>
    show tabAt H g m w (H p) = false
    cases e : H p with
    | none => rfl
    | some o =>
      cases o with
      | tup xs => exact absurd e (h p xs rfl)
      | _ => rfl
  | _ => rfl
theorem all_map {f : V → Bool} {xs : List V} : (xs.map f).all id = xs.all f := by
  rw [List.all_map]
  rfl
end Fm

namespace Fm
open PySem PySem.Spec PyProof.Rows L2
/-! ### drawn numbers and their sums -/
def NG (g : Int) (i : Nat) (a : Int × Int) : Prop := 0 < a.2 ∧ a.2 ∣ 2520 ∧ a.1.natAbs ≤ 64 * 2 ^ i * a.2.natAbs ∧ (g = 0 ∨ (3 ≤ g ∧ g ≤ 13 ∧ a.2 = 1))
theorem NG.mono {g : Int} {i j : Nat} {a : Int × Int} (h : NG g i a) (hj : i ≤ j) : NG g j a :=
  ⟨h.1, h.2.1, Nat.le_trans h.2.2.1 (Nat.mul_le_mul_right _ (Nat.mul_le_mul_left _ (Nat.pow_le_pow_right (by decide) hj))), h.2.2.2⟩
theorem NG.ok {g : Int} {i : Nat} {a : Int × Int} (h : NG g i a) (hi : i ≤ 10) : OkN g 40 a := by
  have h2 : a.2 ≤ 2520 := Int.le_of_dvd (by decide) h.2.1
  have h0 := h.1
  have h3 : a.1.natAbs ≤ 64 * 2 ^ 10 * 2520 := Nat.le_trans h.2.2.1 (Nat.mul_le_mul (Nat.mul_le_mul_left _ (Nat.pow_le_pow_right (by decide) hi)) (by omega))
  refine ⟨Nat.lt_of_le_of_lt h3 (by decide), Nat.lt_of_le_of_lt (show a.2.natAbs ≤ 2520 by omega) (by decide), ?_⟩
  rcases h.2.2.2 with z | z
  · exact .inl ⟨z, h.1⟩
  · exact .inr z
theorem ng_low {u d : Int} (hu : u.natAbs ≤ 64) (hd1 : 1 ≤ d) (hd : d ≤ 9) : NG 0 0 (lowF 0 u d) := by
  have hn : d ≠ 0 := by omega
  obtain ⟨hr, he⟩ := low0_red (u := u) hn
  obtain ⟨q1, q2, e, e1, e2⟩ := low0_eq (u := u) hn
  refine ⟨hr.1, ?_, ?_, .inl rfl⟩
  · have h1 : (lowF 0 u d).2 ∣ d := by
      rw [e]
      exact ⟨lowC u d, by rw [Int.mul_comm]; exact e2⟩
    refine Int.dvd_trans h1 ?_
    rcases (by omega : d = 1 ∨ d = 2 ∨ d = 3 ∨ d = 4 ∨ d = 5 ∨ d = 6 ∨ d = 7 ∨ d = 8 ∨ d = 9) with rfl | rfl | rfl | rfl | rfl | rfl | rfl | rfl | rfl <;> decide
  · have h2 := congrArg Int.natAbs he
    rw [Int.natAbs_mul, Int.natAbs_mul] at h2
    have h3 : (lowF 0 u d).1.natAbs * 1 ≤ (lowF 0 u d).1.natAbs * d.natAbs := Nat.mul_le_mul_left _ (by omega)
    rw [Nat.mul_one, h2] at h3
    refine Nat.le_trans h3 ?_
    rw [Nat.pow_zero, Nat.mul_one]
    exact Nat.mul_le_mul_right _ hu
/-- bounds for the operations -/
def PBd (a : Int × Int) : Prop := a.1.natAbs < 2 ^ 3000 ∧ a.2.natAbs < 2 ^ 3000 ∧ a.2 ≠ 0
def NumG (g : Int) (H : Hp) (v : V) (i : Nat) : Prop := ∃ a, NumV H v a ∧ NG g i a
def RowG (g : Int) (H : Hp) (v : V) (n i : Nat) : Prop := ∃ r, RowV H v r ∧ r.length = n ∧ ∀ a ∈ r, NG g i a
def TabG (g : Int) (H : Hp) (v : V) (m n i : Nat) : Prop := ∃ t, TabV H v t ∧ t.length = m ∧ ∀ r ∈ t, r.length = n ∧ ∀ a ∈ r, NG g i a
theorem NumG.kt {g : Int} {H H' : Hp} {v : V} {i : Nat} (h : NumG g H v i) (s : Kt H H') : NumG g H' v i := by
  obtain ⟨a, h1, h2⟩ := h
  exact ⟨a, h1.kt s, h2⟩
theorem RowG.kt {g : Int} {H H' : Hp} {v : V} {n i : Nat} (h : RowG g H v n i) (s : Kt H H') : RowG g H' v n i := by
  obtain ⟨a, h1, h2⟩ := h
  exact ⟨a, RowV.kt h1 s, h2⟩
theorem RowG.mono {g : Int} {H : Hp} {v : V} {n i j : Nat} (h : RowG g H v n i) (hj : i ≤ j) : RowG g H v n j := by
  obtain ⟨a, h1, h2, h3⟩ := h
  exact ⟨a, h1, h2, fun x hx => (h3 x hx).mono hj⟩
theorem TabG.kt {g : Int} {H H' : Hp} {v : V} {m n i : Nat} (h : TabG g H v m n i) (s : Kt H H') : TabG g H' v m n i := by
  obtain ⟨a, h1, h2⟩ := h
  exact ⟨a, TabV.kt h1 s, h2⟩
theorem rowG_mk {g : Int} {H : Hp} {p : Addr} {xs : List V} {n i : Nat} (hp : H p = some (.tup xs)) (hl : xs.length = n) (hx : ∀ x ∈ xs, NumG g H x i) : RowG g H (.ref p) n i := by
  obtain ⟨as, g1, g2, g3⟩ := sq_val (P := NumV) (S := NG g i) (H := H) (xs := xs) hx
  exact ⟨as, ⟨p, xs, rfl, hp, g1, g3⟩, by omega, g2⟩
theorem RowV.dat {K : PySem.W.Frag} {H : Hp} {v : V} {r : List (Int × Int)} (h : RowV H v r) : Dat K H v 2 := by
  obtain ⟨p, xs, rfl, hp, hl, hx⟩ := h
  refine dat_tup hp fun z hz => ?_
  obtain ⟨i, hi, e⟩ := List.mem_iff_getElem.mp hz
  have e1 : xs[i]? = some z := by rw [List.getElem?_eq_getElem hi, e]
  obtain ⟨q, rfl, hq⟩ := hx i z _ e1 (List.getElem?_eq_getElem (by omega))
  refine dat_tup hq fun w hw => ?_
  rcases List.mem_cons.mp hw with rfl | hw
  · exact dat_int
  · rw [List.mem_singleton.mp hw]; exact dat_int
theorem RowG.zeros {g : Int} {H : Hp} {u : Addr} {l : Addr} {n : Nat} (hg : g = 0 ∨ (3 ≤ g ∧ g ≤ 13)) (hu : H u = some (.tup [.int 0, .int 1])) (hl : H l = some (.tup (List.replicate n [V.ref u]).flatten)) : RowG g H (.ref l) n 0 := by
  rw [List.flatten_replicate_singleton] at hl
  refine rowG_mk hl List.length_replicate fun x hx => ?_
  rw [(List.mem_replicate.mp hx).2]
  refine ⟨(0, 1), ⟨u, rfl, hu⟩, by decide, by decide, by decide, ?_⟩
  rcases hg with z | z
  · exact .inl z
  · exact .inr ⟨z.1, z.2, rfl⟩
end Fm

namespace Fm
open PySem PySem.Spec PyProof.Rows L2
/-! ### bent things -/
def NK (kb : Nat) (H : Hp) (v : V) : Prop := ∃ a : Int × Int, NumV H v a ∧ a.1.natAbs < 2 ^ kb ∧ a.2.natAbs < 2 ^ kb
def RK (kb : Nat) (H : Hp) (v : V) : Prop := ∃ p xs, v = .ref p ∧ H p = some (.tup xs) ∧ 0 < xs.length ∧ xs.length ≤ 10 ∧ ∀ x ∈ xs, NK kb H x
def TK (kb : Nat) (H : Hp) (v : V) : Prop := ∃ p xs, v = .ref p ∧ H p = some (.tup xs) ∧ 0 < xs.length ∧ xs.length ≤ 10 ∧ ∀ x ∈ xs, RK kb H x
theorem NK.kt {kb : Nat} {H H' : Hp} {v : V} (h : NK kb H v) (s : Kt H H') : NK kb H' v := by
  obtain ⟨a, h1, h2⟩ := h
  exact ⟨a, h1.kt s, h2⟩
theorem RK.kt {kb : Nat} {H H' : Hp} {v : V} (h : RK kb H v) (s : Kt H H') : RK kb H' v := by
  obtain ⟨p, xs, e, hp, h1, h2, hx⟩ := h
  exact ⟨p, xs, e, s _ _ hp, h1, h2, fun x m => (hx x m).kt s⟩
theorem TK.kt {kb : Nat} {H H' : Hp} {v : V} (h : TK kb H v) (s : Kt H H') : TK kb H' v := by
  obtain ⟨p, xs, e, hp, h1, h2, hx⟩ := h
  exact ⟨p, xs, e, s _ _ hp, h1, h2, fun x m => (hx x m).kt s⟩
theorem lt_up {a : Int} {k l : Nat} (h : a.natAbs < 2 ^ k) (hl : k ≤ l) : a.natAbs < 2 ^ l := Nat.lt_of_lt_of_le h (Nat.pow_le_pow_right (by decide) hl)
theorem NK.tb {kb l : Nat} {H : Hp} {v : V} (h : NK kb H v) (hl : kb ≤ l) : TB l 1 H v := by
  obtain ⟨a, ⟨p, rfl, hp⟩, h1, h2⟩ := h
  refine TB.tup hp (by simp) fun x hx => ?_
  simp only [List.mem_cons, List.not_mem_nil, or_false] at hx
  rcases hx with rfl | rfl
  · exact .inl (lt_up h1 hl)
  · exact .inl (lt_up h2 hl)
theorem RK.tb {kb l : Nat} {H : Hp} {v : V} (h : RK kb H v) (hl : kb ≤ l) : TB l 2 H v := by
  obtain ⟨p, xs, rfl, hp, _, h2, hx⟩ := h
  exact TB.tup hp (by omega) fun x m => (hx x m).tb hl
theorem TK.tb {kb l : Nat} {H : Hp} {v : V} (h : TK kb H v) (hl : kb ≤ l) : TB l 3 H v := by
  obtain ⟨p, xs, rfl, hp, _, h2, hx⟩ := h
  exact TB.tup hp (by omega) fun x m => (hx x m).tb hl
theorem TB.a {k n : Nat} {H : Hp} {i : Int} (h : i.natAbs < 2 ^ k) : TB k n H (.int i) := TB.at h
theorem RowG.rk {g : Int} {H : Hp} {v : V} {n i kb : Nat} (h : RowG g H v n i) (hi : i ≤ 10) (hk : 40 ≤ kb) (hn : 0 < n) (hn2 : n ≤ 10) : RK kb H v := by
  obtain ⟨r, ⟨p, xs, e, hp, hl, hx⟩, hr, hg⟩ := h
  refine ⟨p, xs, e, hp, by omega, by omega, fun x m => ?_⟩
  obtain ⟨j, hj, ej⟩ := List.mem_iff_getElem.mp m
  have e1 : xs[j]? = some x := by rw [List.getElem?_eq_getElem hj, ej]
  have e2 : r[j]? = some (r[j]'(by omega)) := List.getElem?_eq_getElem (by omega)
  have ok := (hg _ (List.getElem_mem (show j < r.length by omega))).ok hi
  exact ⟨_, hx j x _ e1 e2, lt_up ok.1 hk, lt_up ok.2.1 hk⟩
theorem TabG.tk {g : Int} {H : Hp} {v : V} {m n i kb : Nat} (h : TabG g H v m n i) (hi : i ≤ 10) (hk : 40 ≤ kb) (hm : 0 < m) (hm2 : m ≤ 10) (hn : 0 < n) (hn2 : n ≤ 10) : TK kb H v := by
  obtain ⟨t, ⟨p, xs, e, hp, hl, hx⟩, ht, hg⟩ := h
  refine ⟨p, xs, e, hp, by omega, by omega, fun x mm => ?_⟩
  obtain ⟨j, hj, ej⟩ := List.mem_iff_getElem.mp mm
  have e1 : xs[j]? = some x := by rw [List.getElem?_eq_getElem hj, ej]
  have e2 : t[j]? = some (t[j]'(by omega)) := List.getElem?_eq_getElem (by omega)
  have hh := hg _ (List.getElem_mem (show j < t.length by omega))
  exact RowG.rk ⟨_, hx j x _ e1 e2, hh.1, hh.2⟩ hi hk hn hn2
theorem w_sl {r : V → Option Int → Option Int → Hp → VK → Prop} {te : TE} {tl th : TO} {σ : L2.St} {H : Hp} {Q : VK} (h : te σ H fun x H1 => tl σ H1 fun l H2 => th σ H2 fun u H3 => r x l u H3 Q) : tSl r te tl th σ H Q := h
theorem w_part {te : TE} {σ : L2.St} {H : Hp} {R : Option Int → Hp → Prop} (h : te σ H fun x H1 => ∃ i, x = .int i ∧ R (some i) H1) : tPart te σ H R := h
theorem w_nopart {σ : L2.St} {H : Hp} {R : Option Int → Hp → Prop} (h : R none H) : tNoPart σ H R := h
theorem w_exi {a : Int} {R : Int → Prop} (h : R a) : ∃ i, V.int a = .int i ∧ R i := ⟨a, rfl, h⟩
end Fm

namespace Fm
open PySem PySem.Spec PyProof.Rows L2
/-! ### tables as data -/
def numD (a : Int × Int) : PyData := .tuple [.int a.1, .int a.2]
def rowD (r : List (Int × Int)) : PyData := .tuple (r.map numD)
theorem dpAll_of {α : Type} {K : PySem.W.Frag} {H : Hp} {f : α → PyData} : ∀ {xs : List V} {as : List α}, xs.length = as.length → (∀ (i : Nat) (x : V) (a : α), xs[i]? = some x → as[i]? = some a → Dp K H x (f a)) → DpAll K H xs (as.map f)
  | [], [], _, _ => .nil
  | [], _ :: _, h, _ => by cases h
  | _ :: _, [], h, _ => by cases h
  | x :: xs, a :: as, h, hx => .cons (hx 0 x a rfl rfl) (dpAll_of (by simpa using h) fun i y b h1 h2 => hx (i + 1) y b h1 h2)
theorem NumV.dp {K : PySem.W.Frag} {H : Hp} {v : V} {a : Int × Int} (h : NumV H v a) : Dp K H v (numD a) := by
  obtain ⟨p, rfl, hp⟩ := h
  exact .tup (SqT.of hp) (.cons (.int _) (.cons (.int _) .nil))
theorem RowV.dp {K : PySem.W.Frag} {H : Hp} {v : V} {r : List (Int × Int)} (h : RowV H v r) : Dp K H v (rowD r) := by
  obtain ⟨p, xs, rfl, hp, hl, hx⟩ := h
  exact .tup (SqT.of hp) (dpAll_of hl fun i x a h1 h2 => (hx i x a h1 h2).dp)
theorem TabV.dp {K : PySem.W.Frag} {H : Hp} {v : V} {t : List (List (Int × Int))} (h : TabV H v t) : Dp K H v (.tuple (t.map rowD)) := by
  obtain ⟨p, xs, rfl, hp, hl, hx⟩ := h
  exact .tup (SqT.of hp) (dpAll_of hl fun i x a h1 h2 => RowV.dp (hx i x a h1 h2))
theorem lay_num : ∀ (r : List (Int × Int)), PyData.canLayAll0 (r.map numD) = true ∧ PyData.depthAll (r.map numD) ≤ 1
  | [] => ⟨by simp [PyData.canLayAll0], by simp [PyData.depthAll]⟩
  | a :: r => by
    have ih := lay_num r
    refine ⟨?_, ?_⟩
    · rw [List.map_cons, PyData.canLayAll0, ih.1]
      simp [numD, PyData.canLay0, PyData.canLayAll0]
    · rw [List.map_cons, PyData.depthAll]
      have : (numD a).depth ≤ 1 := by simp [numD, PyData.depth, PyData.depthAll]
      have := ih.2
      omega
theorem lay_row : ∀ (t : List (List (Int × Int))), PyData.canLayAll0 (t.map rowD) = true ∧ PyData.depthAll (t.map rowD) ≤ 2
  | [] => ⟨by simp [PyData.canLayAll0], by simp [PyData.depthAll]⟩
  | r :: t => by
    have ih := lay_row t
    have h := lay_num r
    refine ⟨?_, ?_⟩
    · rw [List.map_cons, PyData.canLayAll0, ih.1]
      simp [rowD, PyData.canLay0, h.1]
    · rw [List.map_cons, PyData.depthAll]
      have : (rowD r).depth ≤ 2 := by rw [rowD, PyData.depth]; have := h.2; omega
      have := ih.2
      omega
theorem w_neTab {K : PySem.W.Frag} {H : Hp} {Q : VK} {v v' : V} {t t' : List (List (Int × Int))} (h1 : TabV H v t) (h2 : TabV H v' t') (e : t = t') (q : Q (.bl false) H) : rNeD K v v' H Q := by
  subst e
  have l := lay_row t
  have c : PyData.canLay0 (.tuple (t.map rowD)) = true := by rw [PyData.canLay0]; exact l.1
  have d : PyData.depth (.tuple (t.map rowD)) ≤ 64 := by rw [PyData.depth]; have := l.2; omega
  refine ⟨_, _, TabV.dp h1, TabV.dp h2, shaped_of c d, shaped_of c d, ?_⟩
  rw [SeqAt.eqv_refl _ c]
  exact q
theorem w_neRows {K : PySem.W.Frag} {H : Hp} {Q : VK} {p r : Addr} {xs ys : List V} {t : List (List (Int × Int))} (hp : H p = some (.lst xs)) (hr : H r = some (.lst ys)) (h1 : Acc RowV H xs t t.length) (h2 : Acc RowV H ys t t.length) (q : Q (.bl false) H) : rNeD K (.ref p) (.ref r) H Q := by
  have l := lay_row t
  have c : PyData.canLay0 (.list (t.map rowD)) = true := by rw [PyData.canLay0]; exact l.1
  have d : PyData.depth (.list (t.map rowD)) ≤ 64 := by rw [PyData.depth]; have := l.2; omega
  refine ⟨.list (t.map rowD), .list (t.map rowD), .lst (SqL.of hp) (dpAll_of h1.1 fun i x a e1 e2 => RowV.dp (h1.2 i x a e1 e2)), .lst (SqL.of hr) (dpAll_of h2.1 fun i x a e1 e2 => RowV.dp (h2.2 i x a e1 e2)), shaped_of c d, shaped_of c d, ?_⟩
  rw [SeqAt.eqv_refl _ c]
  exact q
theorem turn_len {l : Nat} {t : List (List (Int × Int))} : (turnF l t).length = l := by
  unfold turnF
  rw [List.length_map, List.length_range]
theorem NumV.nk {H : Hp} {v : V} {a : Int × Int} {k : Nat} (h : NumV H v a) (h1 : a.1.natAbs < 2 ^ k) (h2 : a.2.natAbs < 2 ^ k) : TB k 1 H v := NK.tb ⟨a, h, h1, h2⟩ (Nat.le_refl _)
theorem RowV.tb {H : Hp} {v : V} {r : List (Int × Int)} {k : Nat} (h : RowV H v r) (hl : r.length ≤ 100) (hb : ∀ a ∈ r, a.1.natAbs < 2 ^ k ∧ a.2.natAbs < 2 ^ k) : TB k 2 H v := by
  obtain ⟨p, xs, rfl, hp, hlx, hx⟩ := h
  refine TB.tup hp (by omega) fun x m => ?_
  obtain ⟨j, hj, ej⟩ := List.mem_iff_getElem.mp m
  have e1 : xs[j]? = some x := by rw [List.getElem?_eq_getElem hj, ej]
  have e2 : r[j]? = some (r[j]'(by omega)) := List.getElem?_eq_getElem (by omega)
  have b := hb _ (List.getElem_mem (show j < r.length by omega))
  exact (hx j x _ e1 e2).nk b.1 b.2
theorem TabV.tb {H : Hp} {v : V} {t : List (List (Int × Int))} {k : Nat} (h : TabV H v t) (hl : t.length ≤ 100) (hb : ∀ r ∈ t, r.length ≤ 100 ∧ ∀ a ∈ r, a.1.natAbs < 2 ^ k ∧ a.2.natAbs < 2 ^ k) : TB k 3 H v := by
  obtain ⟨p, xs, rfl, hp, hlx, hx⟩ := h
  refine TB.tup hp (by omega) fun x m => ?_
  obtain ⟨j, hj, ej⟩ := List.mem_iff_getElem.mp m
  have e1 : xs[j]? = some x := by rw [List.getElem?_eq_getElem hj, ej]
  have e2 : t[j]? = some (t[j]'(by omega)) := List.getElem?_eq_getElem (by omega)
  have b := hb _ (List.getElem_mem (show j < t.length by omega))
  exact RowV.tb (hx j x _ e1 e2) b.1 b.2
theorem row_true {H : Hp} {v : V} {r : List (Int × Int)} {g m : Int} (h : RowV H v r) (hl : (r.length : Int) = m) (hn : ∀ a ∈ r, numOk g [.int a.1, .int a.2] = true) : rowOf H g m v = true := by
  obtain ⟨p, xs, rfl, hp, hlx, hx⟩ := h
  rw [rowOf_tup hp, decide_eq_true (by omega), Bool.true_and, List.all_eq_true]
  intro x mm
  obtain ⟨j, hj, ej⟩ := List.mem_iff_getElem.mp mm
  have e1 : xs[j]? = some x := by rw [List.getElem?_eq_getElem hj, ej]
  have e2 : r[j]? = some (r[j]'(by omega)) := List.getElem?_eq_getElem (by omega)
  obtain ⟨q, rfl, hq⟩ := hx j x _ e1 e2
  rw [numOf_tup hq]
  exact hn _ (List.getElem_mem (show j < r.length by omega))
theorem tab_true {H : Hp} {v : V} {t : List (List (Int × Int))} {g m w : Int} (h : TabV H v t) (hl : (t.length : Int) = m) (hn : ∀ r ∈ t, (r.length : Int) = w ∧ ∀ a ∈ r, numOk g [.int a.1, .int a.2] = true) : tabOf H g m w v = true := by
  obtain ⟨p, xs, rfl, hp, hlx, hx⟩ := h
  rw [tabOf_tup hp, decide_eq_true (by omega), Bool.true_and, List.all_eq_true]
  intro x mm
  obtain ⟨j, hj, ej⟩ := List.mem_iff_getElem.mp mm
  have e1 : xs[j]? = some x := by rw [List.getElem?_eq_getElem hj, ej]
  have e2 : t[j]? = some (t[j]'(by omega)) := List.getElem?_eq_getElem (by omega)
  have b := hn _ (List.getElem_mem (show j < t.length by omega))
  exact row_true (hx j x _ e1 e2) b.1 b.2
end Fm

namespace Fm
open PySem PySem.Spec PyProof.Rows L2
/-! ### whole roots -/
def RootOf (n r : Nat) : Prop := r * r ≤ n ∧ n < (r + 1) * (r + 1)
end Fm

namespace Fm
open PySem PySem.Spec PyProof.Rows L2
section
variable {prog : Program} {w : World} {A : Around} {E : Value → Shared → Prop} {s : Shared}
end
end Fm

namespace Fm
open PySem PySem.Spec PyProof.Rows L2
/-- [elt for target in a list if ..] while an exception is handled: D the new list, W by the turn -/
def tLcH (K : PySem.W.Frag) (ti : TE) (g : TG) (tt : TT) (te : TE) (vs : List Nat) : TE := fun σ H Q => ti σ H fun v H1 => ∃ (a : Addr) (xs : List V), v = .ref a ∧ SqL K H1 a xs ∧ ∀ D, H1 D = none → ∃ W : Nat → Hp → Prop,
  W 0 (upd H1 D (.lst [])) ∧ (∀ i H', W i H' → SqL K H' a xs) ∧ (∀ H', W xs.length H' → Q (.ref D) H') ∧ ∀ i x H', xs[i]? = some x → W i H' → g x (wipe σ vs) H' fun σ2 H2 => wipe σ2 vs = wipe σ vs ∧ tt σ2 H2 fun b H3 =>
    if b = true then te σ2 H3 fun y H4 => ∃ acc, H4 D = some (.lst acc) ∧ acc.length < sizeLine ∧ W (i + 1) (upd H4 D (.lst (acc ++ [y]))) else W (i + 1) H3
/-- the block's context: the handled exception is pinned in it -/
abbrev blkH (X : Cx) (p : Addr × Obj) (s : Shared) (H : Hp) (scope : Scope) (cenv : Env) (fp : List Addr) : Cx := (X.blk s H scope cenv fp).tr [p] (fun _ _ => False)
section
variable {X : Cx}
end
end Fm

namespace Fm
open PySem PySem.Spec PyProof.Rows L2
section
variable {X : Cx}
/-- an exception that came out of a try's body, looked at by its clauses: sI is the state without it -/
structure Gd (X : Cx) (pins : List (Addr × Obj)) (σ : L2.St) (H : Hp) (B : Heap) (sI : Shared) (a : Addr) (cls : Value) (d : Option Addr) (s : Shared) : Prop where
  inv : Inv X pins σ H sI
  nb : ∀ b o, sI.heap.get? b = some o → b ∉ frs X.stack → B.get? b = some o
  up : sI.heap.UpToSlots s.heap
  fl : HandSPX.FlyingZ B (X.env :: X.outer) a (L2N.Zn cls d) s.heap
  na : H a = none
  os : s.os = sI.os
  ag : AllBare s.gens
theorem Gd.at {pins : List (Addr × Obj)} {σ : L2.St} {H : Hp} {B : Heap} {sI s : Shared} {a : Addr} {cls : Value} {d : Option Addr} (G : Gd X pins σ H B sI a cls d s) : Inv X pins σ H s := G.inv.landed G.nb G.fl.1 G.up G.os G.ag
theorem Gd.suite {pins : List (Addr × Obj)} {σ : L2.St} {H : Hp} {B : Heap} {sI s : Shared} {a : Addr} {cls : Value} {d : Option Addr} (hf : X.env.frame = some X.env.locals) (G : Gd X pins σ H B sI a cls d s) :
    ∃ (oe : Obj) (vs : Array Value), s.heap.get? a = some oe ∧ L2N.Zn cls d oe ∧ oe.data = .fields vs ∧ Inv (X.suite a ((a, oe) :: (X.pn ++ pins))) [] σ H s := by
  obtain ⟨oe, vs, ge, ze, de⟩ := G.fl.there
  have nf : a ∉ frs (X.env :: X.outer) := fun hm => by
    obtain ⟨_, o', e', hnf⟩ := G.fl.2.2.1.mem hm
    rw [ge] at e'
    cases e'
    exact hnf _ de
  refine ⟨oe, vs, ge, ze, de, G.at.suite ge de G.na (fun z => nf ?_) fun hm => nf ?_⟩
  · exact List.mem_filterMap.mpr ⟨X.env, List.mem_cons_self, by rw [hf, z]⟩
  · obtain ⟨e, he, q⟩ := List.mem_filterMap.mp hm
    exact List.mem_filterMap.mpr ⟨e, List.mem_cons_of_mem _ he, q⟩
/-- the clause's class, asked of it -/
theorem Gd.ask {pins : List (Addr × Obj)} {σ : L2.St} {H : Hp} {B : Heap} {sI s : Shared} {a : Addr} {cls c : Value} {d : Option Addr} {x : Str} {np : Pos} {b : Bool} {R : Bool → Shared → Prop} {E E' : Value → Shared → Prop} (hf : X.env.frame = some X.env.locals) (G : Gd X pins σ H B sI a cls d s) (hc : Names X x c) (hx : PySem.W.exmOne X.K cls c = some b) (q : R b s) :
    wpAny (model X.prog X.w) (X.A.mark (some (.ref a))) (eval (.Name x np) X.env) (fun v s1 => wpAny (model X.prog X.w) (X.A.mark (some (.ref a))) (excMatches (.ref a) v) R E' s1) E s := by
  obtain ⟨oe, vs, ge, ze, de, S⟩ := G.suite hf
  have LT : PySem.W.Looks (model X.prog X.w) s.heap (typeOf (.ref a)) cls := fun A Q E s k q => wpAny_typeOf_ref (k _ _ ge) (by rw [ze.1]; exact q)
  have LM := PySem.W.exm_one (M := model X.prog X.w) G.at.kIn LT hx
  obtain ⟨hg, hdb, hm | ⟨hm, hv, hnn⟩⟩ := hc
  · exact ld_glob (X := X.suite a ((a, oe) :: (X.pn ++ pins))) S hg hm (LM.here q) hdb
  · exact ld_blt (X := X.suite a ((a, oe) :: (X.pn ++ pins))) S hg hm hv (LM.here q) hnn hdb
theorem Gd.again {pins : List (Addr × Obj)} {σ : L2.St} {H : Hp} {B : Heap} {sI s : Shared} {a : Addr} {cls : Value} {d : Option Addr} {M : Model} {A : Around} {E : Value → Shared → Prop} {Q : Unit → Shared → Prop} (G : Gd X pins σ H B sI a cls d s)
    (k : ∀ h', Gd X pins σ H B sI a cls d { s with heap := h' } → Q () { s with heap := h' }) : wpAny M A (setFlight (.ref a) none) Q E s :=
  HandSPX.lands_againZ G.fl fun h' fl' up' => k h' ⟨G.inv, G.nb, G.up.trans up', fl', G.na, G.os, G.ag⟩
/-- the clauses without a name, one after another -/
theorem Gd.plain {pins : List (Addr × Obj)} {σ : L2.St} {H : Hp} {B : Heap} {sI : Shared} {a : Addr} {cls : Value} {d : Option Addr} {D : Ends} {Wout : WX} (hs : X.stack = X.env :: X.outer) (hf : X.env.frame = some X.env.locals) (tk : L2N.Takes X Wout) :
    ∀ {hds : List ExceptHandler} {l : List (Value × (Addr → Value → Option Addr → TS))}, L2N.HdsOk X hds l → ∀ {s : Shared}, Gd X pins σ H B sI a cls d s → wMany X.K Wout D l cls d σ H → wpAny (model X.prog X.w) X.A (handleBy (.ref a) X.env hds) (SP X pins D) X.xe s := by
  intro hds l hk
  induction hk with
  | nil =>
    intro s G wsh
    refine wpAny_handleBy_nil ?_
    obtain ⟨_, _, _, oe, vs, T, oT, ts', he, hz, hd, h1, _⟩ := id G.fl
    have nT : ¬ ((Value.ref T == Value.none) = true) := by simp
    unfold PySem.passOn
    refine wpAny_bind (wpAny_field he hd h1 ?_)
    rw [if_neg nT]
    have on : wpAny (model X.prog X.w) X.A (setFlight (.ref a) X.env.frame) (fun _ s4 => wpAny (model X.prog X.w) X.A (throw (.ref a) : Sem Flow) (SP X pins D) X.xe s4) X.xe s := by
      rw [hf]
      refine HandSPX.setFlight_upZ G.fl fun h4 hh4 up4 => wpAny_throw (tk _ _ ?_)
      exact ⟨a, B, sI, pins, σ, H, cls, d, rfl, G.inv, G.nb, G.up.trans up4, .inr (.inr (by rw [hs]; exact hh4)), G.na, G.os, G.ag, wsh⟩
    first
      | exact wpAny_bind (wpAny_pure (wpAny_bind on))
      | exact wpAny_bind on
  | cons hc hsu r ih =>
    intro s G wsh
    obtain ⟨b, hb1, hyes, hno⟩ := wsh
    refine wpAny_handleBy_cons (codeAny_handlers_test (G.ask hf hc hb1 ?_)) (by intro q; cases q)
    cases b with
    | true =>
      refine codeAny_handlers_suite (G.again fun h' G' => ?_)
      obtain ⟨oe, vs, ge, ze, de, S⟩ := G'.suite hf
      refine wpAny_mono ((hsu a oe cls d (X.pn ++ pins) ze ⟨_, de⟩).run [] _ _ H _ S (hyes rfl a G.na)) (fun f s6 hsp => ?_) fun _ _ z => z.elim
      have ok := G.inv.ok
      cases f with
      | next => exact (let ⟨σ6, H6, S6, q6⟩ := hsp; ⟨σ6, H6, S6.unsuite ok, q6⟩)
      | brk => exact (let ⟨σ6, H6, S6, q6⟩ := hsp; ⟨σ6, H6, S6.unsuite ok, q6⟩)
      | cont => exact (let ⟨σ6, H6, S6, q6⟩ := hsp; ⟨σ6, H6, S6.unsuite ok, q6⟩)
      | ret u => exact (let ⟨v6, σ6, H6, S6, r6, q6⟩ := hsp; ⟨v6, σ6, H6, S6.unsuite ok, r6, q6⟩)
    | false => exact ih G (hno rfl)
end
end Fm

namespace Fm
open PySem PySem.Spec PyProof.Rows L2
/-- what is wanted of an exception that leaves a lambda's frame -/
abbrev lamX (X : Cx) (A : Around) (outer : List Env) (s : Shared) (H : Hp) (E : XK) (scope : Scope) (f c : Addr) : Value → Shared → Prop := fun e s' =>
  wpAny (model X.prog X.w) (A.deeper (LamX.lamEnv X scope s.heap.objs.size f c)) (leaving (LamX.lamEnv X scope s.heap.objs.size f c) e) (fun _ s2 => L2N.CX X.prog X.w outer H s E e s2) (fun e' s2 => L2N.CX X.prog X.w outer H s E e' s2) s'
/-- the context of a lambda's body -/
abbrev lamN (X : Cx) (A : Around) (outer : List Env) (s : Shared) (H : Hp) (E : XK) (scope : Scope) (f c : Addr) : Cx := (LamX.lamCx X A outer s H E scope f c).wish (lamX X A outer s H E scope f c)
section
variable {X : Cx}
/-- the def that calls what it got: TT is what it makes of the lambda's reading -/
def GivesN (X : Cx) (Ng : List Str) (x : Str) (sg : Scope) (g : Addr) (cdg : Value) (bg : List Stmt) (a : Str) (q : Str) (TT : (XK → Hp → VK → Prop) → Hp → VK → Prop) : Prop :=
  ∀ (f c : Addr) (s : Shared) (H : Hp) (Q : VK) (tl : XK → Hp → VK → Prop), Room 1 (X.A.deeper (envOfC x sg s.heap.objs.size g cdg)) →
    (∀ (W : WX) (pn : List (Addr × Obj)) (xe : Value → Shared → Prop) (E : XK) (p1 p2 : Pos), L2N.Takes ((cxOf C8.CX0 X.prog X.w X.K X.mg X.base Ng x sg g cdg X.A X.stack s H C8.E0).tr pn xe) W →
      PE ((cxOf C8.CX0 X.prog X.w X.K X.mg X.base Ng x sg g cdg X.A X.stack s H C8.E0).tr pn xe) (.Call (.Name a p1) [] [] p2) (fun σZ HZ Q => (∀ cls d H', E cls d H' → W cls d σZ H') ∧ σZ[0]? = some (some (.ref f)) ∧ HZ c = some (LamX.CodeO c q) ∧ tl E HZ Q)) →
    H c = some (LamX.CodeO c q) → TT tl H Q →
    ∃ t, PSs (cxOf C8.CX0 X.prog X.w X.K X.mg X.base Ng x sg g cdg X.A X.stack s H C8.E0).nox bg t ∧ t { nx := fun _ H' => Q .non H', rt := Q } (L2.start Ng [.ref f]) H
end
section
variable {P : Program} {w : World} {K : PySem.W.Frag} {mg : Str → Option Value} {base : Heap}
end
end Fm

namespace Fm
open PySem PySem.Spec PyProof.Rows L2
/-- all classes of refusals under MirrorError -/
def mirNames : List Str := ["NoGround", "NoNumber", "NoRow", "NoTable", "NoForm", "NoKeeper", "NoWorth", "NoSeat", "NoFour", "NoPlace", "NoClaim", "NoText", "NoSaying", "TooMany", "NotKept"]
/-- the class at C is the one named nm among them, of errors without a dict -/
structure MirC (K : PySem.W.Frag) (C : Addr) (nm : Str) : Prop where
  exc : ExcC K C
  kit : ∀ x ∈ mirNames, PySem.W.kitOne K (.ref C) (.ref (He.ga K x)) = some (decide (x = nm))
  ve : PySem.W.kitOne K (.ref C) (.type "ValueError") = some true
  exm : PySem.W.exmOne K (.ref C) (.ref (He.ga K "MirrorError")) = some true
  one : mirNames.filter (fun x => decide (x = nm)) = [nm]
def excCB (K : PySem.W.Frag) (D : Addr) : Bool :=
  He.eqO (PySem.W.findIn K (.ref D) "__getattribute__") (some (some (.builtin "BaseException.__getattribute__"))) && (He.eqO (PySem.W.findIn K (.ref D) "__getattr__") (some none) && (decide (PySem.W.subIn K (.ref D) (.type "BaseException") = some true) && (PySem.W.hasDictIn K D &&
  (He.eqO (PySem.W.findIn K (.ref D) "__class__") (some (some (.builtin "object.__class__"))) && (He.eqO (PySem.W.specialIn K (.builtin "object.__class__") "__get__") (some (some (.builtin "getset_descriptor.__get__"))) && (decide (PySem.W.takesIn K (.builtin "object.__class__") = some true) && decide (PySem.W.mroIn K D (.type "object") = some true)))))))
/-- what the written part must say of the class named nm -/
def mirB (K : PySem.W.Frag) (nm : Str) : Bool :=
  excCB K (He.ga K nm) && ((mirNames.all fun x => decide (PySem.W.kitOne K (.ref (He.ga K nm)) (.ref (He.ga K x)) = some (decide (x = nm)))) && (decide (PySem.W.kitOne K (.ref (He.ga K nm)) (.type "ValueError") = some true) && decide (PySem.W.exmOne K (.ref (He.ga K nm)) (.ref (He.ga K "MirrorError")) = some true)))
/-- the suite of the first clause, as read: the class's name is told -/
def tsMir (K : PySem.W.Frag) (iE : Nat) (n : Nat) : Addr → Value → Option Addr → TS := fun a cls d D σ H => ∃ C nm, cls = .ref C ∧ d = none ∧ MirC K C nm ∧ σ[iE]? = some (some (.ref a)) ∧ σ.length = n ∧ ∀ H', Same H H' → D.rt (.str nm) H'
/-- what _law_refusal makes of the lambda's reading: None, or the name of what is raised -/
def TTref (K : PySem.W.Frag) : (XK → Hp → VK → Prop) → Hp → VK → Prop := fun tl H Q => tl (fun cls d H' => (∃ C nm, cls = .ref C ∧ d = none ∧ MirC K C nm ∧ ∀ H'', Same H' H'' → Q (.str nm) H'') ∨
  (∃ C, cls = .ref C ∧ PySem.W.exmOne K cls (.ref (He.ga K "MirrorError")) = some false ∧ PySem.W.exmOne K cls (.ref (He.ga K "OverNought")) = some true ∧ Q (.str "OverNought") H') ∨
  (∃ C, cls = .ref C ∧ PySem.W.exmOne K cls (.ref (He.ga K "MirrorError")) = some false ∧ PySem.W.exmOne K cls (.ref (He.ga K "OverNought")) = some false ∧ PySem.W.exmOne K cls (.ref (He.ga K "Flat")) = some true ∧ Q (.str "Flat") H')) H (fun _ H' => Q .non H')
section
variable {P : Program} {w : World} {K : PySem.W.Frag} {mg : Str → Option Value} {base : Heap} {x qual : Str} {params : Arguments} {body : List Stmt} {scope : Scope} {dvs : List V} {kws : List (Str × V)} {f c : Addr} {fd : FuncData}
/-- as F.ok, where the def's code object is known -/
def CodeAt (K : PySem.W.Frag) (f c : Addr) : Prop := ∀ (oc : Value) (od : Option Addr) (fd : FuncData) (osl : Array (Option Value)), K.lookup f = some ⟨oc, od, .func fd, osl⟩ → fd.code = .ref c
end
section
variable {X : Cx}
end
end Fm

namespace Fm
open PySem PySem.Spec PyProof.Rows L2
def tStep2 (K : PySem.W.Frag) (te : TE) : TE := fun σ H Q => te σ H fun x H1 => ∃ a xs, x = .ref a ∧ SqL K H1 a xs ∧ ∀ p ys, H1 p = none → ys.length ≤ xs.length → (∀ y ∈ ys, y ∈ xs) → Q (.ref p) (upd H1 p (.lst ys))
theorem w_step2 {K : PySem.W.Frag} {te : TE} {σ : L2.St} {H : Hp} {Q : VK} (h : te σ H fun x H1 => ∃ a xs, x = .ref a ∧ SqL K H1 a xs ∧ ∀ p ys, H1 p = none → ys.length ≤ xs.length → (∀ y ∈ ys, y ∈ xs) → Q (.ref p) (upd H1 p (.lst ys))) : tStep2 K te σ H Q := h
theorem w_par3 {i j l : Nat} {as : TA} {D : Ends} {σ : L2.St} {H : Hp} (h : as σ H fun vs H1 => ∃ u v w, vs = [u, v, w] ∧ D.nx (((σ.set i (some u)).set j (some v)).set l (some w)) H1) : tPar3 i j l as D σ H := h
theorem w_ex3 {a b c : V} {R : V → V → V → Prop} (h : R a b c) : ∃ u v w, [a, b, c] = [u, v, w] ∧ R u v w := ⟨a, b, c, rfl, h⟩
theorem w_bits {to : TE} {σ : L2.St} {H : Hp} {Q : VK} (h : to σ H fun x H1 => ∃ i, x = .int i ∧ Q (.int (Builtin.Int.intBits i : Nat)) H1) : tBits to σ H Q := h
/-! ### whole roots by value -/
def isqrt : Nat → Nat
  | 0 => 0
  | n + 1 => if (isqrt n + 1) * (isqrt n + 1) ≤ n + 1 then isqrt n + 1 else isqrt n
/-- the root on a wheel: the first one -/
def wroot (g a : Int) : Option Int := ((List.range g.toNat).map fun (i : Nat) => (i : Int)).find? fun i => decide ((i * i).fmod g = a)
/-- the root of a number, as both sides reckon it -/
def rootV (g : Int) (a : Int × Int) : Option (Int × Int) :=
  if g = 0 then (if a.1 < 0 then none else if (isqrt a.1.toNat : Int) * (isqrt a.1.toNat : Int) = a.1 ∧ (isqrt a.2.toNat : Int) * (isqrt a.2.toNat : Int) = a.2 then some ((isqrt a.1.toNat : Int), (isqrt a.2.toNat : Int)) else none) else (wroot g a.1).map fun i => (i, 1)
/-- None, or a number -/
def OptV (H : Hp) (v : V) : Option (Int × Int) → Prop
  | none => v = .non
  | some r => NumV H v r
theorem OptV.kt {H H' : Hp} {v : V} {o : Option (Int × Int)} (h : OptV H v o) (k : Kt H H') : OptV H' v o := by
  cases o with
  | none => exact h
  | some r => exact NumV.kt h k
/-- a number of the ground g, below 2 ^ k -/
def TN (g : Int) (k : Nat) (a : Int × Int) : Prop := ((g = 0 ∧ Red a) ∨ (0 < g ∧ 0 ≤ a.1 ∧ a.1 < g ∧ a.2 = 1)) ∧ a.1.natAbs < 2 ^ k ∧ a.2.natAbs < 2 ^ k
theorem TN.mono {g : Int} {k l : Nat} {a : Int × Int} (h : TN g k a) (hl : k ≤ l) : TN g l a := ⟨h.1, Nat.lt_of_lt_of_le h.2.1 (Nat.pow_le_pow_right (by decide) hl), Nat.lt_of_lt_of_le h.2.2 (Nat.pow_le_pow_right (by decide) hl)⟩
theorem TN.pos {g : Int} {k : Nat} {a : Int × Int} (h : TN g k a) : 0 < a.2 := by
  rcases h.1 with ⟨_, h⟩ | ⟨_, _, _, h⟩
  · exact h.1
  · omega
theorem TN.num {g : Int} {k : Nat} {a : Int × Int} (h : TN g k a) : numOk g [.int a.1, .int a.2] = true := by
  rcases h.1 with ⟨rfl, hr⟩ | ⟨hg, h1, h2, h3⟩
  · rw [numOk_0, decide_eq_true (show 1 ≤ a.2 from hr.1), hr.2]
    rfl
  · rw [numOk_g (by omega), decide_eq_true h1, decide_eq_true h2, decide_eq_true h3]
    rfl
def Gr5 (g : Int) : Prop := g = 3 ∨ g = 5 ∨ g = 7 ∨ g = 11 ∨ g = 13
/-- on a wheel what is no multiple has a back -/
theorem inv_of {g d : Int} (hg : Gr5 g) (hd : d.fmod g ≠ 0) : ∃ f : Int, 1 ≤ f ∧ f ≤ 13 ∧ (f * d).fmod g = 1 := by
  have g0 : 0 < g := by unfold Gr5 at hg; omega
  have e : ∀ f : Int, (f * d).fmod g = (f * d.fmod g).fmod g := fun f => by
    rw [fmod_pos _ g0, fmod_pos _ g0, fmod_pos _ g0, Int.mul_emod f (d % g), Int.emod_emod_of_dvd d (Int.dvd_refl g), ← Int.mul_emod]
  have r0 : 0 ≤ d.fmod g := by rw [fmod_pos _ g0]; exact Int.emod_nonneg _ (by omega)
  have r1 : d.fmod g < g := by rw [fmod_pos _ g0]; exact Int.emod_lt_of_pos _ g0
  simp only [e]
  generalize d.fmod g = r at hd r0 r1 ⊢
  have key : ∀ g ∈ [3, 5, 7, 11, 13], ∀ r ∈ List.range g, r ≠ 0 → ∃ f ∈ List.range 14, 1 ≤ f ∧ ((f : Int) * (r : Int)).fmod (g : Int) = 1 := by decide +kernel
  obtain ⟨n, rfl⟩ := Int.eq_ofNat_of_zero_le r0
  have mk : ∀ m : Nat, m ∈ [3, 5, 7, 11, 13] → (n : Int) < m → ∃ f : Int, 1 ≤ f ∧ f ≤ 13 ∧ (f * (n : Int)).fmod (m : Int) = 1 := fun m hm hn => by
    obtain ⟨f, hf, h1, h2⟩ := key m hm n (List.mem_range.mpr (by omega)) (by omega)
    exact ⟨f, by omega, by have := List.mem_range.mp hf; omega, h2⟩
  unfold Gr5 at hg
  rcases hg with rfl | rfl | rfl | rfl | rfl
  · exact mk 3 (by decide) r1
  · exact mk 5 (by decide) r1
  · exact mk 7 (by decide) r1
  · exact mk 11 (by decide) r1
  · exact mk 13 (by decide) r1
/-- what comes of lowest terms is a number -/
theorem tn_low {g u d : Int} {k : Nat} (hg : g = 0 ∨ Gr5 g) (hd : d ≠ 0) (hg2 : g ≠ 0 → d.fmod g ≠ 0) (hk : 4 ≤ k) (h1 : u.natAbs < 2 ^ k) (h2 : d.natAbs < 2 ^ k) : TN g k (lowF g u d) := by
  have g13 : g ≤ 13 := by unfold Gr5 at hg; omega
  obtain ⟨b1, b2, b3⟩ := low_bd (g := g) (u := u) g13 hd hk h1 h2
  refine ⟨?_, b1, b2⟩
  rcases hg with rfl | hg
  · exact .inl ⟨rfl, (low0_red hd).1⟩
  · have g0 : 0 < g := by unfold Gr5 at hg; omega
    obtain ⟨f, f1, f2, f3⟩ := inv_of hg (hg2 (by omega))
    refine .inr ⟨g0, ?_⟩
    rw [low_inv g0 f3]
    refine ⟨?_, ?_, rfl⟩
    · show 0 ≤ (u * f).fmod g
      rw [fmod_pos _ g0]
      exact Int.emod_nonneg _ (by omega)
    · show (u * f).fmod g < g
      rw [fmod_pos _ g0]
      exact Int.emod_lt_of_pos _ g0
theorem one_fmod {g : Int} (hg : Gr5 g) : (1 : Int).fmod g ≠ 0 := by
  unfold Gr5 at hg
  rcases hg with rfl | rfl | rfl | rfl | rfl <;> decide
theorem TN.bd {g : Int} {k : Nat} {a : Int × Int} (h : TN g k a) (hk : k ≤ 3000) : PBd a := ⟨(h.mono hk).2.1, (h.mono hk).2.2, by have := h.pos; omega⟩
theorem tn_times {g : Int} {k l : Nat} {a c : Int × Int} (hg : g = 0 ∨ Gr5 g) (ha : TN g k a) (hc : TN g l c) (hk : 4 ≤ k) : TN g (k + l) (timesF g a c) := by
  have ha2 := ha.pos
  have hc2 := hc.pos
  refine tn_low hg (Int.mul_ne_zero (by omega) (by omega)) (fun z => ?_) (by omega) (wide_lt ha.2.1 hc.2.1) (wide_lt ha.2.2 hc.2.2)
  rcases ha.1 with ⟨e, _⟩ | ⟨_, _, _, e⟩
  · exact absurd e z
  · rcases hc.1 with ⟨e2, _⟩ | ⟨_, _, _, e2⟩
    · exact absurd e2 z
    · rw [e, e2]
      exact one_fmod (hg.resolve_left z)
theorem tn_plus {g : Int} {k l : Nat} {a c : Int × Int} (hg : g = 0 ∨ Gr5 g) (ha : TN g k a) (hc : TN g l c) (hk : 4 ≤ k) : TN g (k + l + 1) (plusF g a c) := by
  have ha2 := ha.pos
  have hc2 := hc.pos
  have b1 : (a.1 * c.2 + c.1 * a.2).natAbs < 2 ^ (k + l + 1) := by
    have h1 := wide_lt ha.2.1 hc.2.2
    have h2 := wide_lt hc.2.1 ha.2.2
    rw [Nat.add_comm l k] at h2
    rw [Nat.pow_succ]
    generalize 2 ^ (k + l) = z at h1 h2 ⊢
    omega
  refine tn_low hg (Int.mul_ne_zero (by omega) (by omega)) (fun z => ?_) (by omega) b1 (Nat.lt_of_lt_of_le (wide_lt ha.2.2 hc.2.2) (Nat.pow_le_pow_right (by decide) (by omega)))
  rcases ha.1 with ⟨e, _⟩ | ⟨_, _, _, e⟩
  · exact absurd e z
  · rcases hc.1 with ⟨e2, _⟩ | ⟨_, _, _, e2⟩
    · exact absurd e2 z
    · rw [e, e2]
      exact one_fmod (hg.resolve_left z)
def minusF (g : Int) (a : Int × Int) : Int × Int := lowF g (0 - a.1) a.2
theorem tn_minus {g : Int} {k : Nat} {a : Int × Int} (hg : g = 0 ∨ Gr5 g) (ha : TN g k a) (hk : 4 ≤ k) : TN g k (minusF g a) := by
  have ha2 := ha.pos
  refine tn_low hg (by omega) (fun z => ?_) hk (by have := ha.2.1; omega) ha.2.2
  rcases ha.1 with ⟨e, _⟩ | ⟨_, _, _, e⟩
  · exact absurd e z
  · rw [e]
    exact one_fmod (hg.resolve_left z)
theorem num_eqv (a b : Int × Int) : PyData.eqv (numD a) (numD b) = decide (a = b) := by
  obtain ⟨a1, a2⟩ := a
  obtain ⟨b1, b2⟩ := b
  by_cases h1 : a1 = b1
  · by_cases h2 : a2 = b2
    · subst h1 h2
      rw [decide_eq_true rfl]
      exact SeqAt.eqv_refl _ (by simp [numD, PyData.canLay0, PyData.canLayAll0])
    · rw [decide_eq_false (by intro z; cases z; exact h2 rfl)]
      simp [numD, PyData.eqv, PyData.eqvAll, h1, h2]
  · rw [decide_eq_false (by intro z; cases z; exact h1 rfl)]
    simp [numD, PyData.eqv, PyData.eqvAll, h1]
theorem num_shaped (a : Int × Int) : SeqAt.shaped (numD a) = true := shaped_of (by simp [numD, PyData.canLay0, PyData.canLayAll0]) (by simp [numD, PyData.depth, PyData.depthAll])
theorem w_eqNum {K : PySem.W.Frag} {H : Hp} {Q : VK} {v v' : V} {a b : Int × Int} (h1 : NumV H v a) (h2 : NumV H v' b) (q : Q (.bl (decide (a = b))) H) : rEqD K v v' H Q := by
  refine ⟨_, _, NumV.dp h1, NumV.dp h2, num_shaped a, num_shaped b, ?_⟩
  rw [num_eqv]
  exact q
theorem w_neNum {K : PySem.W.Frag} {H : Hp} {Q : VK} {v v' : V} {a b : Int × Int} (h1 : NumV H v a) (h2 : NumV H v' b) (q : Q (.bl (!decide (a = b))) H) : rNeD K v v' H Q := by
  refine ⟨_, _, NumV.dp h1, NumV.dp h2, num_shaped a, num_shaped b, ?_⟩
  rw [num_eqv]
  exact q
/-- a class of refusals, to be raised with a text -/
structure RaiseC (K : PySem.W.Frag) (mg : Str → Option Value) (x : Str) : Prop where
  g : mg x = some (.ref (He.ga K x))
  e : PySem.W.excIn K (He.ga K x) He.veBase "ValueError.__new__" = true
  k : PySem.W.keepIn K (.ref (He.ga K x)) = true
  b : PySem.W.subIn K (.ref (He.ga K x)) (.type "BaseException") = some true
  t : PySem.W.typeIn K (.ref (He.ga K x)) = some (.type "type")
/-! ### tables of code objects beside the bag -/
open LamX in
theorem tabs_mv {T : List (Addr × Str)} {H H' : Hp} {b : Addr} (t : Tabs T H) (hb : Bag H b) (m : Mv b H H') : Tabs T H' := fun p hp => by
  obtain ⟨A, B, eb, _⟩ := hb
  obtain ⟨ps, h1, h2, h3⟩ := t p hp
  refine ⟨ps, m _ _ (fun z => ?_) h1, h2, fun pos cv hc => ?_⟩
  · rw [z, eb] at h1
    cases h1
  · obtain ⟨c, e1, e2⟩ := h3 pos cv hc
    refine ⟨c, e1, m _ _ (fun z => ?_) e2⟩
    rw [z, eb] at e2
    exact absurd (Option.some.inj e2) (fun q => by unfold CodeO at q; cases q)
open LamX in
theorem tabs_updL {T : List (Addr × Str)} {H : Hp} {D : Addr} {xs ys : List V} (t : Tabs T H) (hD : H D = some (.lst xs)) : Tabs T (upd H D (.lst ys)) := fun p hp => by
  obtain ⟨ps, h1, h2, h3⟩ := t p hp
  refine ⟨ps, ?_, h2, fun pos cv hc => ?_⟩
  · rw [upd_ne (fun z => by rw [z, hD] at h1; cases h1)]
    exact h1
  · obtain ⟨c, e1, e2⟩ := h3 pos cv hc
    refine ⟨c, e1, ?_⟩
    rw [upd_ne (fun z => ?_)]
    · exact e2
    · rw [z, hD] at e2
      exact absurd (Option.some.inj e2) (fun q => by unfold CodeO at q; cases q)
open LamX in
theorem tabs_sm {T : List (Addr × Str)} {H H' : Hp} (t : Tabs T H) (s : Same H H') : Tabs T H' := t.ext s
/-- all but the tables stay, and these are tables still -/
def Sx (T : List (Addr × Str)) (H H' : Hp) : Prop := LamX.ExtN H H' ∧ LamX.Tabs T H'
theorem Sx.tup {T : List (Addr × Str)} {H H' : Hp} {p : Addr} {xs : List V} (s : Sx T H H') (h : H p = some (.tup xs)) : H' p = some (.tup xs) := s.1 _ _ h fun _ z => by cases z
theorem Sx.lst {T : List (Addr × Str)} {H H' : Hp} {p : Addr} {xs : List V} (s : Sx T H H') (h : H p = some (.lst xs)) : H' p = some (.lst xs) := s.1 _ _ h fun _ z => by cases z
theorem Sx.kt {T : List (Addr × Str)} {H H' : Hp} (s : Sx T H H') : Kt H H' := fun _ _ h => s.tup h
theorem Sx.trans {T : List (Addr × Str)} {H H1 H2 : Hp} (a : Sx T H H1) (b : Sx T H1 H2) : Sx T H H2 := ⟨a.1.trans b.1, b.2⟩
theorem Sx.same {T : List (Addr × Str)} {H H' : Hp} (t : LamX.Tabs T H) (s : Same H H') : Sx T H H' := ⟨LamX.ExtN.of s, tabs_sm t s⟩
theorem Sx.refl {T : List (Addr × Str)} {H : Hp} (t : LamX.Tabs T H) : Sx T H H := ⟨LamX.ExtN.refl H, t⟩
theorem Sx.bag {T : List (Addr × Str)} {H H' : Hp} {b : Addr} (s : Sx T H H') (hb : Bag H b) : Bag H' b := by
  obtain ⟨A, B, h, r⟩ := hb
  exact ⟨A, B, s.lst h, r⟩
/-- a new list, filled -/
theorem Sx.updD {T : List (Addr × Str)} {H H' : Hp} {D : Addr} {xs ys : List V} (s : Sx T H H') (hD : H D = none) (h : H' D = some (.lst xs)) : Sx T H (upd H' D (.lst ys)) :=
  ⟨fun b o e n => by rw [upd_ne (fresh_of e hD)]; exact s.1 b o e n, tabs_updL s.2 h⟩
/-- a bag that is new -/
theorem Sx.mv {T : List (Addr × Str)} {H H1 H2 : Hp} {b : Addr} (s : Sx T H H1) (hn : H b = none) (hb : Bag H1 b) (m : Mv b H1 H2) : Sx T H H2 := ⟨fun p o e n => m p o (fresh_of e hn) (s.1 p o e n), tabs_mv s.2 hb m⟩
end Fm

namespace Fm
open PySem PySem.Spec PyProof.Rows L2
def CPowW (i j : Int) : Prop := 0 ≤ j ∧ (Builtin.Int.intBits i : Int) * j ≤ 2 ^ 27
/-! ### fractions as rational numbers -/
def qv (p : Int × Int) : Rat := (p.1 : Rat) / (p.2 : Rat)
theorem rat_ne {z : Int} (h : z ≠ 0) : (z : Rat) ≠ 0 := fun e => h (by exact_mod_cast e)
theorem TN.red {k : Nat} {a : Int × Int} (h : TN 0 k a) : Red a := by
  rcases h.1 with ⟨_, h⟩ | ⟨h, _⟩
  · exact h
  · exact absurd h (by decide)
theorem TN.one {g : Int} {k : Nat} {a : Int × Int} (h : TN g k a) (hg : 0 < g) : a.2 = 1 := by
  rcases h.1 with ⟨e, _⟩ | ⟨_, _, _, e⟩
  · omega
  · exact e
theorem TN.gpos {g : Int} {k : Nat} {a : Int × Int} (h : TN g k a) (hz : g ≠ 0) : 0 < g := by rcases h.1 with ⟨e, _⟩ | ⟨e, _⟩ <;> omega
/-- only nought is written with nought above -/
theorem TN.zero {g : Int} {k : Nat} {a : Int × Int} (h : TN g k a) : a.1 = 0 ↔ a = (0, 1) := by
  constructor
  · intro z
    rcases h.1 with ⟨rfl, hr⟩ | ⟨_, _, _, e⟩
    · have h2 := hr.2
      rw [z, Int.gcd_zero_left] at h2
      have := hr.1
      exact Prod.ext z (by show a.2 = 1; omega)
    · exact Prod.ext z e
  · intro e
    rw [e]
end Fm

namespace Fr
open Lean.Grind
variable {F : Type} [CommRing F]
abbrev Row (F : Type) := Nat → F
/-- a sum of rows, times numbers -/
def lin : List F → List (Row F) → Row F
  | c :: cs, a :: A => fun j => c * a j + lin cs A j
  | _, _ => fun _ => 0
/-- what rows span: in every space that holds them -/
structure Spc (W : Row F → Prop) : Prop where
  zero : W (fun _ => 0)
  add : ∀ u v, W u → W v → W (fun j => u j + v j)
  mul : ∀ (c : F) u, W u → W (fun j => c * u j)
def InS (L : List (Row F)) (v : Row F) : Prop := ∀ W : Row F → Prop, Spc W → (∀ r ∈ L, W r) → W v
theorem InS.mem {L : List (Row F)} {v : Row F} (h : v ∈ L) : InS L v := fun _ _ hr => hr v h
theorem InS.spc (L : List (Row F)) : Spc (InS L) := ⟨fun _ s _ => s.zero, fun u v hu hv W s hr => s.add u v (hu W s hr) (hv W s hr), fun c u hu W s hr => s.mul c u (hu W s hr)⟩
theorem InS.trans {L M : List (Row F)} {v : Row F} (h : InS L v) (hl : ∀ r ∈ L, InS M r) : InS M v := h (InS M) (InS.spc M) hl
theorem lin_zero : ∀ (h : List Nat) (A : List (Row F)), lin (h.map fun _ => (0 : F)) A = fun _ => 0
  | [], _ => by unfold lin; rfl
  | _ :: _, [] => by unfold lin; rfl
  | _ :: h, a :: A => by
    funext j
    show (0 : F) * a j + lin (h.map fun _ => (0 : F)) A j = 0
    rw [lin_zero h A]
    grind
theorem lin_add (f g : Nat → F) : ∀ (h : List Nat) (A : List (Row F)), lin (h.map fun p => f p + g p) A = fun j => lin (h.map f) A j + lin (h.map g) A j
  | [], _ => by
    funext j
    show (0 : F) = 0 + 0
    grind
  | _ :: _, [] => by
    funext j
    show (0 : F) = 0 + 0
    grind
  | p :: h, a :: A => by
    funext j
    show (f p + g p) * a j + lin (h.map fun p => f p + g p) A j = f p * a j + lin (h.map f) A j + (g p * a j + lin (h.map g) A j)
    rw [lin_add f g h A]
    grind
theorem lin_mul (c : F) (f : Nat → F) : ∀ (h : List Nat) (A : List (Row F)), lin (h.map fun p => c * f p) A = fun j => c * lin (h.map f) A j
  | [], _ => by
    funext j
    show (0 : F) = c * 0
    grind
  | _ :: _, [] => by
    funext j
    show (0 : F) = c * 0
    grind
  | p :: h, a :: A => by
    funext j
    show c * f p * a j + lin (h.map fun p => c * f p) A j = c * (f p * a j + lin (h.map f) A j)
    rw [lin_mul c f h A]
    grind
/-- least rows A with their heads h -/
structure Rr (A : List (Row F)) (h : List Nat) : Prop where
  len : A.length = h.length
  inc : ∀ (i k p q : Nat), h[i]? = some p → h[k]? = some q → i < k → p < q
  one : ∀ (i : Nat) (a : Row F) (p : Nat), A[i]? = some a → h[i]? = some p → a p = 1
  nul : ∀ (i k : Nat) (a : Row F) (p : Nat), A[i]? = some a → h[k]? = some p → i ≠ k → a p = 0
  ahead : ∀ (i : Nat) (a : Row F) (p j : Nat), A[i]? = some a → h[i]? = some p → j < p → a j = 0
/-- by numbers that are all nought but one -/
theorem lin_unit : ∀ (i : Nat) (A : List (Row F)) (h : List Nat) (f : Nat → F) (a : Row F), A.length = h.length → A[i]? = some a → (∀ (k p : Nat), h[k]? = some p → k ≠ i → f p = 0) → (∀ p : Nat, h[i]? = some p → f p = 1) → lin (h.map f) A = a
  | _, [], _, _, _, _, e, _, _ => by cases e
  | _, _ :: _, [], _, _, hl, _, _, _ => by cases hl
  | 0, b :: A, q :: h, f, a, hl, e, hz, h1 => by
    have e' : b = a := Option.some.inj e
    subst e'
    funext j
    show f q * b j + lin (h.map f) A j = b j
    have hq : f q = 1 := h1 q rfl
    have hr : lin (h.map f) A = fun _ => 0 := by
      have : h.map f = h.map fun _ => (0 : F) := List.map_congr_left fun p hp => by
        obtain ⟨k, hk⟩ := List.getElem?_of_mem hp
        exact hz (k + 1) p hk (by omega)
      rw [this, lin_zero]
    rw [hq, hr]
    grind
  | i + 1, b :: A, q :: h, f, a, hl, e, hz, h1 => by
    have ih := lin_unit i A h f a (Nat.succ.inj hl) e (fun k p hk hne => hz (k + 1) p hk (by omega)) (fun p hp => h1 p hp)
    have hq : f q = 0 := hz 0 q rfl (by omega)
    funext j
    show f q * b j + lin (h.map f) A j = a j
    rw [hq, ih]
    grind
/-- a row that is spanned is told by what it has at the heads -/
theorem Rr.coord {A : List (Row F)} {h : List Nat} (R : Rr A h) {v : Row F} (hv : InS A v) : v = lin (h.map v) A := by
  refine hv (fun v => v = lin (h.map v) A) ⟨?_, fun u w hu hw => ?_, fun c u hu => ?_⟩ fun r hr => ?_
  · exact (lin_zero h A).symm
  · have e := lin_add u w h A
    rw [e, ← hu, ← hw]
  · have e := lin_mul c u h A
    rw [e, ← hu]
  · obtain ⟨i, hi⟩ := List.getElem?_of_mem hr
    exact (lin_unit i A h r r R.len hi (fun k p hk hne => R.nul i k r p hi hk (fun z => hne z.symm)) fun p hp => R.one i r p hi hp).symm
/-- a sum that isn't nought has a part that isn't -/
theorem lin_ne {p : Nat} : ∀ (A : List (Row F)) (h : List Nat) (f : Nat → F), A.length = h.length → lin (h.map f) A p ≠ 0 → ∃ (i : Nat) (a : Row F) (q : Nat), A[i]? = some a ∧ h[i]? = some q ∧ f q ≠ 0 ∧ a p ≠ 0
  | [], [], _, _, hne => absurd rfl hne
  | [], _ :: _, _, hl, _ => by cases hl
  | _ :: _, [], _, hl, _ => by cases hl
  | a :: A, q :: h, f, hl, hne => by
    have hne' : f q * a p + lin (h.map f) A p ≠ 0 := hne
    by_cases e : f q * a p = 0
    · have h2 : lin (h.map f) A p ≠ 0 := fun z => hne' (by rw [e, z]; grind)
      obtain ⟨i, b, r, h3, h4, h5, h6⟩ := lin_ne A h f (Nat.succ.inj hl) h2
      exact ⟨i + 1, b, r, h3, h4, h5, h6⟩
    · refine ⟨0, a, q, rfl, rfl, fun z => e ?_, fun z => e ?_⟩
      · rw [z]
        grind
      · rw [z]
        grind
/-- the first place of a spanned row that isn't nought is a head -/
theorem Rr.lead {A : List (Row F)} {h : List Nat} (R : Rr A h) {v : Row F} (hv : InS A v) {p : Nat} (hp : v p ≠ 0) (h0 : ∀ j, j < p → v j = 0) : p ∈ h := by
  have e := R.coord hv
  have hp' : lin (h.map v) A p ≠ 0 := fun z => hp (by rw [e]; exact z)
  obtain ⟨i, a, q, hi, hq, h1, h2⟩ := lin_ne A h v R.len hp'
  have hge : p ≤ q := Nat.le_of_not_lt fun z => h1 (h0 q z)
  have hle : q ≤ p := Nat.le_of_not_lt fun z => h2 (R.ahead i a q p hi hq z)
  have : p = q := by omega
  rw [this]
  exact List.mem_of_getElem? hq
theorem inc_eq : ∀ (h k : List Nat), (∀ (i j p q : Nat), h[i]? = some p → h[j]? = some q → i < j → p < q) → (∀ (i j p q : Nat), k[i]? = some p → k[j]? = some q → i < j → p < q) → (∀ p, p ∈ h ↔ p ∈ k) → h = k
  | [], [], _, _, _ => rfl
  | [], q :: k, _, _, hm => absurd ((hm q).mpr List.mem_cons_self) (by intro z; cases z)
  | p :: h, [], _, _, hm => absurd ((hm p).mp List.mem_cons_self) (by intro z; cases z)
  | p :: h, q :: k, hh, hk, hm => by
    have below : ∀ x ∈ h, p < x := fun x hx => by
      obtain ⟨i, hi⟩ := List.getElem?_of_mem hx
      exact hh 0 (i + 1) p x rfl hi (by omega)
    have below2 : ∀ x ∈ k, q < x := fun x hx => by
      obtain ⟨i, hi⟩ := List.getElem?_of_mem hx
      exact hk 0 (i + 1) q x rfl hi (by omega)
    have epq : p = q := by
      have h1 := (hm p).mp List.mem_cons_self
      have h2 := (hm q).mpr List.mem_cons_self
      rcases List.mem_cons.mp h1 with z | z
      · exact z
      · rcases List.mem_cons.mp h2 with y | y
        · exact y.symm
        · have := below2 p z
          have := below q y
          omega
    subst epq
    have ih := inc_eq h k (fun i j a b ha hb hij => hh (i + 1) (j + 1) a b ha hb (by omega)) (fun i j a b ha hb hij => hk (i + 1) (j + 1) a b ha hb (by omega)) fun x => by
      constructor
      · intro hx
        rcases List.mem_cons.mp ((hm x).mp (List.mem_cons_of_mem _ hx)) with z | z
        · have := below x hx
          omega
        · exact z
      · intro hx
        rcases List.mem_cons.mp ((hm x).mpr (List.mem_cons_of_mem _ hx)) with z | z
        · have := below2 x hx
          omega
        · exact z
    rw [ih]
/-- least rows that span the same are the same -/
theorem Rr.uniq {A B : List (Row F)} {h k : List Nat} (n1 : (1 : F) ≠ 0) (R : Rr A h) (T : Rr B k) (hAB : ∀ r ∈ A, InS B r) (hBA : ∀ r ∈ B, InS A r) : A = B ∧ h = k := by
  have heads : ∀ {A B : List (Row F)} {h k : List Nat}, Rr A h → Rr B k → (∀ r ∈ A, InS B r) → ∀ p ∈ h, p ∈ k := fun {A B h k} R T hAB p hp => by
    obtain ⟨i, hi⟩ := List.getElem?_of_mem hp
    have hlt : i < A.length := by rw [R.len]; exact (List.getElem?_eq_some_iff.mp hi).1
    have ha : A[i]? = some A[i] := List.getElem?_eq_getElem hlt
    exact T.lead (hAB _ (List.getElem_mem hlt)) (fun z => n1 (by rw [← R.one i _ p ha hi]; exact z)) fun j hj => R.ahead i _ p j ha hi hj
  have ehk : h = k := inc_eq h k R.inc T.inc fun p => ⟨heads R T hAB p, heads T R hBA p⟩
  subst ehk
  refine ⟨List.ext_getElem? fun i => ?_, rfl⟩
  have hl : A.length = B.length := R.len.trans T.len.symm
  by_cases hi : i < A.length
  · have ha : A[i]? = some A[i] := List.getElem?_eq_getElem hi
    have hb : B[i]? = some (B[i]'(by omega)) := List.getElem?_eq_getElem (by omega)
    have e := T.coord (hAB _ (List.getElem_mem hi))
    have e2 := lin_unit i B h A[i] (B[i]'(by omega)) T.len hb (fun q p hq hne => R.nul i q _ p ha hq (fun z => hne z.symm)) fun p hp => R.one i _ p ha hp
    rw [ha, hb]
    exact congrArg some (e.trans e2)
  · rw [List.getElem?_eq_none (by omega), List.getElem?_eq_none (by omega)]
/-- a row less what of it a head's row clears at a place -/
def clr (k : Nat) (b a : Row F) : Row F := fun j => a j + -(a k) * b j
theorem clr_at {k : Nat} {b a : Row F} (hb : b k = 1) : clr k b a k = 0 := by
  unfold clr
  rw [hb]
  grind
theorem clr_nul {k j : Nat} {b a : Row F} (hb : b j = 0) : clr k b a j = a j := by
  unfold clr
  rw [hb]
  grind
/-- one head more -/
theorem Rr.step {A : List (Row F)} {h : List Nat} (R : Rr A h) {k : Nat} {b : Row F} (hk : ∀ p ∈ h, p < k) (hb : b k = 1) (h0 : ∀ j, j < k → b j = 0) : Rr (A.map (clr k b) ++ [b]) (h ++ [k]) := by
  have hl : (A.map (clr k b)).length = h.length := by rw [List.length_map, R.len]
  have look : ∀ (i : Nat) (a : Row F), (A.map (clr k b) ++ [b])[i]? = some a → (i < h.length ∧ ∃ a0, A[i]? = some a0 ∧ a = clr k b a0) ∨ (i = h.length ∧ a = b) := fun i a e => by
    by_cases hi : i < h.length
    · rw [List.getElem?_append_left (by omega), List.getElem?_map] at e
      have ha : A[i]? = some (A[i]'(by rw [R.len]; exact hi)) := List.getElem?_eq_getElem _
      rw [ha] at e
      exact .inl ⟨hi, _, ha, (Option.some.inj e).symm⟩
    · rw [List.getElem?_append_right (by omega), hl] at e
      cases hd : i - h.length with
      | zero =>
        rw [hd] at e
        exact .inr ⟨by omega, (Option.some.inj e).symm⟩
      | succ n =>
        rw [hd] at e
        cases e
  have lookh : ∀ (i p : Nat), (h ++ [k])[i]? = some p → (i < h.length ∧ h[i]? = some p) ∨ (i = h.length ∧ p = k) := fun i p e => by
    by_cases hi : i < h.length
    · rw [List.getElem?_append_left hi] at e
      exact .inl ⟨hi, e⟩
    · rw [List.getElem?_append_right (by omega)] at e
      cases hd : i - h.length with
      | zero =>
        rw [hd] at e
        exact .inr ⟨by omega, (Option.some.inj e).symm⟩
      | succ n =>
        rw [hd] at e
        cases e
  refine ⟨by rw [List.length_append, List.length_append, hl]; rfl, fun i q p r hp hr hiq => ?_, fun i a p ha hp => ?_, fun i q a p ha hp hne => ?_, fun i a p j ha hp hj => ?_⟩
  · rcases lookh i p hp with ⟨h1, e1⟩ | ⟨h1, e1⟩
    · rcases lookh q r hr with ⟨h2, e2⟩ | ⟨h2, e2⟩
      · exact R.inc i q p r e1 e2 hiq
      · rw [e2]
        exact hk p (List.mem_of_getElem? e1)
    · rcases lookh q r hr with ⟨h2, e2⟩ | ⟨h2, e2⟩ <;> omega
  · rcases look i a ha with ⟨h1, a0, e0, rfl⟩ | ⟨h1, rfl⟩
    · rcases lookh i p hp with ⟨_, e1⟩ | ⟨h2, e1⟩
      · rw [clr_nul (h0 p (hk p (List.mem_of_getElem? e1)))]
        exact R.one i a0 p e0 e1
      · omega
    · rcases lookh i p hp with ⟨h2, e1⟩ | ⟨_, e1⟩
      · omega
      · rw [e1]
        exact hb
  · rcases look i a ha with ⟨h1, a0, e0, rfl⟩ | ⟨h1, rfl⟩
    · rcases lookh q p hp with ⟨_, e1⟩ | ⟨h2, e1⟩
      · rw [clr_nul (h0 p (hk p (List.mem_of_getElem? e1)))]
        exact R.nul i q a0 p e0 e1 hne
      · rw [e1]
        exact clr_at hb
    · rcases lookh q p hp with ⟨h2, e1⟩ | ⟨h2, e1⟩
      · exact h0 p (hk p (List.mem_of_getElem? e1))
      · omega
  · rcases look i a ha with ⟨h1, a0, e0, rfl⟩ | ⟨h1, rfl⟩
    · rcases lookh i p hp with ⟨_, e1⟩ | ⟨h2, e1⟩
      · have := hk p (List.mem_of_getElem? e1)
        rw [clr_nul (h0 j (by omega))]
        exact R.ahead i a0 p j e0 e1 hj
      · omega
    · rcases lookh i p hp with ⟨h2, e1⟩ | ⟨_, e1⟩
      · omega
      · rw [e1] at hj
        exact h0 j hj
/-- clearing changes nothing in what is spanned -/
theorem clr_span {L M : List (Row F)} {k : Nat} {b a : Row F} (hb : InS M b) (ha : InS M a) : InS M (clr k b a) := by
  have s := InS.spc M
  exact s.add a (fun j => -(a k) * b j) ha (s.mul (-(a k)) b hb)
theorem clr_back {M : List (Row F)} {k : Nat} {b a : Row F} (hb : InS M b) (hc : InS M (clr k b a)) : InS M a := by
  have s := InS.spc M
  have e : a = fun j => clr k b a j + (a k) * b j := by
    funext j
    unfold clr
    grind
  rw [e]
  exact s.add _ _ hc (s.mul (a k) b hb)
/-- rows that are nought everywhere span nothing -/
theorem ins_nought {L M : List (Row F)} {v : Row F} (h : InS (L ++ M) v) (hz : ∀ r ∈ M, r = fun _ => 0) : InS L v :=
  h.trans fun r hr => (List.mem_append.mp hr).elim InS.mem fun hm => by rw [hz r hm]; exact (InS.spc L).zero
end Fr

namespace Fm
open Lean.Grind
/-- numbers of the ground g as elements of a field: e of a number, i of a whole number -/
structure GV (g : Int) (F : Type) [CommRing F] where
  i : Int → F
  e : Int × Int → F
  iadd : ∀ a b, i (a + b) = i a + i b
  imul : ∀ a b, i (a * b) = i a * i b
  i0 : i 0 = 0
  i1 : i 1 = 1
  ker : ∀ z, i z = 0 → (g = 0 → z = 0) ∧ (g ≠ 0 → z.fmod g = 0)
  inv : ∀ x : F, x ≠ 0 → ∃ y, x * y = 1
  ei : ∀ a : Int × Int, a.2 ≠ 0 → (g ≠ 0 → a.2.fmod g ≠ 0) → e a * i a.2 = i a.1
  ne : (1 : F) ≠ 0
  gz : g ≠ 0 → i g = 0
section
variable {g : Int} {F : Type} [CommRing F] (V : GV g F)
include V in
theorem GV.dom {x y : F} (h : x * y = 0) (hx : x ≠ 0) : y = 0 := by
  obtain ⟨z, hz⟩ := V.inv x hx
  have : y = (x * z) * y := by rw [hz]; grind
  grind
include V in
theorem GV.cancel {x y z : F} (h : x * z = y * z) (hz : z ≠ 0) : x = y := by
  obtain ⟨w, hw⟩ := V.inv z hz
  have e1 : x = x * z * w := by grind
  have e2 : y = y * z * w := by grind
  rw [e1, e2, h]
theorem GV.ineg (a : Int) : V.i (-a) = -V.i a := by
  have h := V.iadd a (-a)
  rw [Int.add_right_neg, V.i0] at h
  grind
theorem GV.isub (a b : Int) : V.i (a - b) = V.i a - V.i b := by
  rw [Int.sub_eq_add_neg, V.iadd, V.ineg]
  grind
theorem GV.ine {d : Int} (h : d ≠ 0) (h2 : g ≠ 0 → d.fmod g ≠ 0) : V.i d ≠ 0 := fun z => by
  by_cases hg : g = 0
  · exact h ((V.ker d z).1 hg)
  · exact h2 hg ((V.ker d z).2 hg)
theorem TN.inv {k : Nat} {a : Int × Int} (hg : g = 0 ∨ Gr5 g) (h : TN g k a) : a.2 ≠ 0 ∧ (g ≠ 0 → a.2.fmod g ≠ 0) := by
  refine ⟨by have := h.pos; omega, fun z => ?_⟩
  rw [h.one (h.gpos z)]
  exact one_fmod (hg.resolve_left z)
theorem GV.tn {k : Nat} {a : Int × Int} (hg : g = 0 ∨ Gr5 g) (h : TN g k a) : V.e a * V.i a.2 = V.i a.1 ∧ V.i a.2 ≠ 0 := ⟨V.ei a (h.inv hg).1 (h.inv hg).2, V.ine (h.inv hg).1 (h.inv hg).2⟩
/-- numbers are told by their elements -/
theorem GV.inj {k l : Nat} {a b : Int × Int} (hg : g = 0 ∨ Gr5 g) (ha : TN g k a) (hb : TN g l b) (h : V.e a = V.e b) : a = b := by
  obtain ⟨e1, n1⟩ := V.tn hg ha
  obtain ⟨e2, n2⟩ := V.tn hg hb
  have e3 : V.i (a.1 * b.2 - b.1 * a.2) = 0 := by
    rw [V.isub, V.imul, V.imul, ← e1, ← e2, h]
    grind
  rcases hg with rfl | h5
  · have := (V.ker _ e3).1 rfl
    exact red_uniq ha.red hb.red (by omega)
  · have g0 : 0 < g := by unfold Gr5 at h5; omega
    have h1 := ha.one g0
    have h2 := hb.one g0
    have e4 := (V.ker _ e3).2 (by omega)
    rw [h1, h2, Int.mul_one, Int.mul_one, fmod_pos _ g0] at e4
    rcases ha.1 with ⟨z, _⟩ | ⟨_, a0, a1, _⟩
    · omega
    rcases hb.1 with ⟨z, _⟩ | ⟨_, b0, b1, _⟩
    · omega
    have e5 : a.1 % g = b.1 % g := Int.emod_eq_emod_iff_emod_sub_eq_zero.mpr e4
    rw [Int.emod_eq_of_lt a0 a1, Int.emod_eq_of_lt b0 b1] at e5
    exact Prod.ext e5 (by rw [h1, h2])
/-- what lowest terms come to -/
theorem GV.low {u d : Int} (hg : g = 0 ∨ Gr5 g) (hd : d ≠ 0) (h2 : g ≠ 0 → d.fmod g ≠ 0) : V.e (lowF g u d) * V.i d = V.i u := by
  obtain ⟨K, h4, hu, hdd⟩ : ∃ K, 4 ≤ K ∧ u.natAbs < 2 ^ K ∧ d.natAbs < 2 ^ K := by
    refine ⟨u.natAbs + d.natAbs + 4, by omega, ?_, ?_⟩
    · exact Nat.lt_of_lt_of_le Nat.lt_two_pow_self (Nat.pow_le_pow_right (by decide) (by omega))
    · exact Nat.lt_of_lt_of_le Nat.lt_two_pow_self (Nat.pow_le_pow_right (by decide) (by omega))
  have t := tn_low (u := u) hg hd h2 h4 hu hdd
  obtain ⟨e1, n1⟩ := V.tn hg t
  refine V.cancel ?_ n1
  have e3 : V.i ((lowF g u d).1 * d) = V.i (u * (lowF g u d).2) := by
    rcases hg with rfl | h5
    · rw [(low0_red hd).2]
    · have g0 : 0 < g := by unfold Gr5 at h5; omega
      obtain ⟨f, f1, f2, f3⟩ := inv_of h5 (h2 (by omega))
      rw [low_inv g0 f3]
      show V.i ((u * f).fmod g * d) = V.i (u * 1)
      have e4 : V.i ((u * f).fmod g * d - u * 1) = 0 := by
        have e5 : ((u * f).fmod g * d - u * 1) = g * (u * (f * d).fdiv g - (u * f).fdiv g * d) := by
          have m1 := Int.mul_fdiv_add_fmod (u * f) g
          have m2 := Int.mul_fdiv_add_fmod (f * d) g
          rw [f3] at m2
          have x1 : (u * f).fmod g = u * f - g * (u * f).fdiv g := by omega
          have x2 : (1 : Int) = f * d - g * (f * d).fdiv g := by omega
          rw [x1]
          have x3 : u * 1 = u * (f * d - g * (f * d).fdiv g) := by rw [← x2]
          rw [x3]
          grind
        rw [e5, V.imul]
        have ig : V.i g = 0 := by
          exact V.gz (by omega)
        rw [ig]
        grind
      rw [V.isub] at e4
      grind
  rw [V.imul, V.imul] at e3
  grind
theorem GV.plus {k l : Nat} {a c : Int × Int} (hg : g = 0 ∨ Gr5 g) (ha : TN g k a) (hc : TN g l c) : V.e (plusF g a c) = V.e a + V.e c := by
  obtain ⟨e1, n1⟩ := V.tn hg ha
  obtain ⟨e2, n2⟩ := V.tn hg hc
  have hd : a.2 * c.2 ≠ 0 := Int.mul_ne_zero (ha.inv hg).1 (hc.inv hg).1
  have hd2 : g ≠ 0 → (a.2 * c.2).fmod g ≠ 0 := fun z => by
    have g0 := ha.gpos z
    rw [ha.one g0, hc.one g0]
    exact one_fmod (hg.resolve_left z)
  have e3 := V.low (u := a.1 * c.2 + c.1 * a.2) hg hd hd2
  have n3 := V.ine hd hd2
  refine V.cancel (z := V.i (a.2 * c.2)) ?_ n3
  show V.e (lowF g (a.1 * c.2 + c.1 * a.2) (a.2 * c.2)) * V.i (a.2 * c.2) = _
  rw [e3, V.iadd, V.imul, V.imul, V.imul, ← e1, ← e2]
  grind
theorem GV.times {k l : Nat} {a c : Int × Int} (hg : g = 0 ∨ Gr5 g) (ha : TN g k a) (hc : TN g l c) : V.e (timesF g a c) = V.e a * V.e c := by
  obtain ⟨e1, n1⟩ := V.tn hg ha
  obtain ⟨e2, n2⟩ := V.tn hg hc
  have hd : a.2 * c.2 ≠ 0 := Int.mul_ne_zero (ha.inv hg).1 (hc.inv hg).1
  have hd2 : g ≠ 0 → (a.2 * c.2).fmod g ≠ 0 := fun z => by
    have g0 := ha.gpos z
    rw [ha.one g0, hc.one g0]
    exact one_fmod (hg.resolve_left z)
  have e3 := V.low (u := a.1 * c.1) hg hd hd2
  have n3 := V.ine hd hd2
  refine V.cancel (z := V.i (a.2 * c.2)) ?_ n3
  show V.e (lowF g (a.1 * c.1) (a.2 * c.2)) * V.i (a.2 * c.2) = _
  rw [e3, V.imul, V.imul, ← e1, ← e2]
  grind
theorem GV.minus {k : Nat} {a : Int × Int} (hg : g = 0 ∨ Gr5 g) (ha : TN g k a) : V.e (minusF g a) = -V.e a := by
  obtain ⟨e1, n1⟩ := V.tn hg ha
  have e3 := V.low (u := 0 - a.1) hg (ha.inv hg).1 (ha.inv hg).2
  refine V.cancel (z := V.i a.2) ?_ n1
  show V.e (lowF g (0 - a.1) a.2) * V.i a.2 = _
  rw [e3, V.isub, V.i0, ← e1]
  grind
def overF (g : Int) (x y : Int × Int) : Int × Int := lowF g (x.1 * y.2) (x.2 * y.1)
theorem TN.top {k : Nat} {a : Int × Int} (h : TN g k a) (hz : a.1 ≠ 0) : g ≠ 0 → a.1.fmod g ≠ 0 := fun z => by
  have g0 := h.gpos z
  rcases h.1 with ⟨e, _⟩ | ⟨_, a0, a1, _⟩
  · exact absurd e z
  · rw [fmod_pos _ g0, Int.emod_eq_of_lt a0 a1]
    exact hz
theorem GV.over {k l : Nat} {a c : Int × Int} (hg : g = 0 ∨ Gr5 g) (ha : TN g k a) (hc : TN g l c) (hz : c.1 ≠ 0) : V.e (overF g a c) * V.e c = V.e a := by
  obtain ⟨e1, n1⟩ := V.tn hg ha
  obtain ⟨e2, n2⟩ := V.tn hg hc
  have hd : a.2 * c.1 ≠ 0 := Int.mul_ne_zero (ha.inv hg).1 hz
  have hd2 : g ≠ 0 → (a.2 * c.1).fmod g ≠ 0 := fun z => by
    have g0 := ha.gpos z
    rw [ha.one g0, Int.one_mul]
    exact hc.top hz z
  have e3 := V.low (u := a.1 * c.2) hg hd hd2
  have n3 := V.ine hz (hc.top hz)
  refine V.cancel (z := V.i a.2 * V.i c.2) ?_ (fun z => n2 (V.dom z n1))
  have e4 : V.e (overF g a c) * V.i (a.2 * c.1) = V.i (a.1 * c.2) := e3
  rw [V.imul, V.imul] at e4
  grind
theorem GV.zero : V.e (0, 1) = 0 := by
  have h := V.ei (0, 1) (by decide) (fun z => ?_)
  · rw [V.i0, V.i1] at h
    grind
  · show (1 : Int).fmod g ≠ 0
    intro w
    have := V.ker 1
    rw [V.i1] at this
    have h5 : ∃ x : Int, 1 = g * x := ⟨(1 : Int).fdiv g, by have := Int.mul_fdiv_add_fmod 1 g; omega⟩
    obtain ⟨x, hx⟩ := h5
    have h6 := V.imul g x
    rw [← hx, V.i1, V.gz z] at h6
    exact V.ne (by grind)
theorem GV.one : V.e (1, 1) = 1 := by
  have h := V.ei (1, 1) (by decide) (fun z => ?_)
  · rw [V.i1] at h
    grind
  · show (1 : Int).fmod g ≠ 0
    intro w
    have h5 : ∃ x : Int, 1 = g * x := ⟨(1 : Int).fdiv g, by have := Int.mul_fdiv_add_fmod 1 g; omega⟩
    obtain ⟨x, hx⟩ := h5
    have h6 := V.imul g x
    rw [← hx, V.i1, V.gz z] at h6
    exact V.ne (by grind)
end
/-- the fractions -/
def gvQ : GV 0 Rat where
  i := fun z => (z : Rat)
  e := qv
  iadd := fun a b => by exact_mod_cast rfl
  imul := fun a b => by exact_mod_cast rfl
  i0 := by exact_mod_cast rfl
  i1 := by exact_mod_cast rfl
  ker := fun z h => ⟨fun _ => by exact_mod_cast h, fun w => absurd rfl w⟩
  inv := fun x hx => ⟨x⁻¹, by grind⟩
  ei := fun a h _ => by
    have := rat_ne h
    unfold qv
    grind
  ne := by decide
  gz := fun w => absurd rfl w
/-- a wheel -/
def fi (n : Nat) [NeZero n] (z : Int) : Fin n := @IntCast.intCast (Fin n) Ring.intCast z
theorem fi_zero (n : Nat) [NeZero n] (z : Int) : fi n z = 0 ↔ z % (n : Int) = 0 := IsCharP.intCast_eq_zero_iff (α := Fin n) n z
theorem fi_sub (n : Nat) [NeZero n] (a b : Int) : fi n (a - b) = fi n a - fi n b := Ring.intCast_sub a b
theorem fi_mul (n : Nat) [NeZero n] (a b : Int) : fi n (a * b) = fi n a * fi n b := Ring.intCast_mul a b
def gvW (n : Nat) [NeZero n] (h1 : 1 < n) (hinv : ∀ x : Fin n, x ≠ 0 → ∃ y, x * y = 1) (h5 : Gr5 (n : Int)) : GV (n : Int) (Fin n) where
  i := fi n
  e := fun a => fi n (lowF (n : Int) a.1 a.2).1
  iadd := fun a b => Ring.intCast_add a b
  imul := fi_mul n
  i0 := Ring.intCast_zero
  i1 := Ring.intCast_one
  ker := fun z h => ⟨fun w => absurd w (by omega), fun _ => by
    have := (fi_zero n z).mp h
    rw [fmod_pos _ (by omega)]
    exact this⟩
  inv := hinv
  ei := fun a h h2 => by
    have g0 : (0 : Int) < (n : Int) := by omega
    obtain ⟨f, f1, f2, f3⟩ := inv_of h5 (h2 (by omega))
    rw [low_inv g0 f3]
    show fi n ((a.1 * f).fmod (n : Int)) * fi n a.2 = fi n a.1
    have e4 : fi n ((a.1 * f).fmod (n : Int) * a.2 - a.1) = 0 := by
      refine (fi_zero n _).mpr ?_
      have e5 : ((a.1 * f).fmod (n : Int) * a.2 - a.1) = (n : Int) * (a.1 * (f * a.2).fdiv n - (a.1 * f).fdiv n * a.2) := by
        have m1 := Int.mul_fdiv_add_fmod (a.1 * f) n
        have m2 := Int.mul_fdiv_add_fmod (f * a.2) n
        rw [f3] at m2
        have x1 : (a.1 * f).fmod (n : Int) = a.1 * f - n * (a.1 * f).fdiv n := by omega
        have x2 : (1 : Int) = f * a.2 - n * (f * a.2).fdiv n := by omega
        rw [x1]
        have x3 : a.1 = a.1 * (f * a.2 - n * (f * a.2).fdiv n) := by rw [← x2, Int.mul_one]
        grind
      rw [e5]
      exact Int.mul_emod_right _ _
    rw [fi_sub, fi_mul] at e4
    grind
  ne := fun z => by
    have := (fi_zero n 1).mp (by rw [← z]; exact Ring.intCast_one)
    rw [Int.emod_eq_of_lt (by omega) (by omega)] at this
    omega
  gz := fun _ => (fi_zero n n).mpr (Int.emod_self)
theorem gvW_5 {g : Int} (h : Gr5 g) : ∃ n : Nat, ∃ _ : NeZero n, ∃ V : GV g (Fin n), True := by
  unfold Gr5 at h
  rcases h with rfl | rfl | rfl | rfl | rfl
  · exact ⟨3, inferInstance, gvW 3 (by decide) (by decide) (by unfold Gr5; omega), trivial⟩
  · exact ⟨5, inferInstance, gvW 5 (by decide) (by decide) (by unfold Gr5; omega), trivial⟩
  · exact ⟨7, inferInstance, gvW 7 (by decide) (by decide) (by unfold Gr5; omega), trivial⟩
  · exact ⟨11, inferInstance, gvW 11 (by decide) (by decide) (by unfold Gr5; omega), trivial⟩
  · exact ⟨13, inferInstance, gvW 13 (by decide) (by decide) (by unfold Gr5; omega), trivial⟩
/-- every ground has its field -/
theorem gv_any {g : Int} (h : g = 0 ∨ Gr5 g) : ∃ F : Type, ∃ _ : CommRing F, Nonempty (GV g F) := by
  rcases h with rfl | h
  · exact ⟨Rat, inferInstance, ⟨gvQ⟩⟩
  · obtain ⟨n, hn, V, _⟩ := gvW_5 h
    exact ⟨Fin n, inferInstance, ⟨V⟩⟩
end Fm

namespace PySem
namespace Fm6
open PySem.W
/-- what a built-in exception class tells of its own __init__ when it stands behind super() -/
structure SupB (B ini : String) (tl : List Value) : Prop where
  typ : typeOf (.builtin ini) = pure (.type "wrapper_descriptor")
  nam : (kfb_private% "nameAndClass") (Value.builtin ini) = (pure (("__init__" : Str), Value.type B) : Sem (Str × Value))
  along : ∀ K : W.Frag, W.alongIn K "__init__" tl = some (some (.builtin ini))
  quiet : ini.startsWith "lifetime." = false
/-- __init__ of a built-in class, bound to x -/
abbrev bnd (ini : String) (x : Addr) : Obj := { cls := .type "method-wrapper", dict := none, data := .fields #[.builtin ini, .ref x], slots := #[] }
section
variable {prog : Program} {w : World} {M : Model} {A : Around} {E : Value → Shared → Prop} {h : Heap} {g : Array GenState} {d : Drawn} {t : Nat} {os : OsState} {B ini : String} {tl : List Value}
end
section
open PySem.Calls PyProof.Rows
variable {prog : Program} {w : World} {M : Model} {A : Around} {E : Value → Shared → Prop} {s : Shared} {ini : String}
end
section
variable {prog : Program} {w : World} {A : Around} {E : Value → Shared → Prop} {h : Heap} {g : Array GenState} {d : Drawn} {t : Nat} {os : OsState} {B ini newId : String} {bmB : List Value}
variable {nm q : Str} {C N : Addr} {bs bm : List Value} {hdct : Bool} {sn : List Str} {sub : List Value} {ab : Bool} {col : Option Bool} {dd : Option Addr} {k0 k1 k2 k3 k5 : Option Value}
end
end Fm6
end PySem

namespace L2
open PySem PySem.Spec PyProof.Rows
/-- what the written part says of a class of the program right over the built-in class B -/
structure OexB (K : PySem.W.Frag) (C : Addr) (newId : String) (tl : List Value) : Prop where
  cls : ∃ nm q N bs sn sub ab col dd k0 k1 k2 k3 k5, K.lookup C = some (excClassObj nm q C N bs tl true sn sub ab col dd k0 k1 k2 k3 k5 newId)
  sa : PySem.W.findIn K (.ref C) "__setattr__" = some (some (.builtin "object.__setattr__"))
  exC : PySem.W.subIn K (.ref C) (.type "BaseException") = some true
  tyC : PySem.W.typeIn K (.ref C) = some (.type "type")
  kC : PySem.W.keepIn K (.ref C) = true
section
variable {X : Cx} {e : Expr} {es : List Expr} {ta : TA} {p pos : Pos} {B newId ini : String} {tl : List Value}
/-- C(..), C right over B, with an __init__ of its own -/
theorem pmk_oxb {CX : CXT} {x : Str} {C fI : Addr} {k : Nat} {fd : FuncData} {ps : List Str} {sp : Sp} {ds : List Value} {dvs : List V} (G : ExcBaseFacts B newId ini tl) (T : OexB X.K C newId tl) (iC : PySem.W.findIn X.K (.ref C) "__init__" = some (some (.ref fI)))
    (tI : PySem.W.typeIn X.K (.ref fI) = some (.type "function")) (F1 : FnOk X.prog X.w X.K X.mg X.base CX k fI fd ps sp) (hr : Room (k + 1) X.A) (hb : Binds X.K fd ps ds) (hd : Vals dvs ds) (hx : Passes CX X (fun _ _ _ => False)) (hg : Gl X x) (hm : X.mg x = some (.ref C))
    (ha : PA X (e :: es) ta) (hdb : (x == ("__debug__" : Str)) = false := by decide) (he : starEach (e :: es) X.env = (false, eval e X.env) :: starEach es X.env := by rfl) (hpl : (backTo pos (starEach es X.env)).any (·.1) = false := by rfl) :
    PMk X (.Call (.Name x p) (e :: es) [] pos) (tMkO C sp dvs ta) := by
  intro pins s σ H Q I h
  obtain ⟨nm, q, N, bs, sn, sub, ab, col, dd, k0, k1, k2, k3, k5, hC⟩ := T.cls
  refine wpAny_Call_Name_kw (ld_glob I hg hm ?_ hdb)
  refine PySem.W.callWith_K (h₀ := X.base) I.ok.mod.kin T.kC (thn (ha.run pos pins s σ H _ I h) fun us s1 b1 => ?_) he hpl
  obtain ⟨vs, H1, I1, r1, hz, q1⟩ := b1
  refine ⟨I1.kIn, ?_⟩
  show wpAny _ _ (call (.ref C) us) _ _ _
  obtain ⟨hp, g, dr, tk, os⟩ := s1
  have b2 : H1 (hp.objs.size + 1) = none := I1.hok.fresh (Nat.le_succ _)
  have b3 := q1 (hp.objs.size + 1) b2
  have b4 : ∀ b o, hp.get? b = some o → ((hp.push (PySem.W.kdv_tup us)).push (PySem.HandSPX.excO C hp.objs.size)).get? b = some o := fun b o z => Heap.get?_push_of_some _ (Heap.get?_push_of_some _ z)
  have b5 : ((hp.push (PySem.W.kdv_tup us)).push (PySem.HandSPX.excO C hp.objs.size)).get? (hp.objs.size + 1) = some (PySem.HandSPX.excO C hp.objs.size) := by heap_get
  have I2 := I1.laid (t' := tk) (a := hp.objs.size + 1) (o := exo (hp.objs.size + 1) C none) b4 (Nat.le_succ _) (exo_ok b5)
  have b6 : Vals (V.ref (hp.objs.size + 1) :: (vs ++ dvs)) (Value.ref (hp.objs.size + 1) :: (us ++ ds)) := .cons rfl (r1.append hd)
  have b7 : (Value.ref (hp.objs.size + 1) :: us ++ ds).length = ps.length := ((F1.len _ _ _ _ b3).symm.trans b6.length).symm
  have b8 : us.length ≤ sizeLine := by
    have := Paired.length r1
    rw [sizeLine_eq]
    omega
  refine wpAny_call (PySem.HandSPX.call_own G (fun Y => rfl) (I1.kIn _ _ hC) (PySem.W.looks_findIn I1.kIn iC) (fun self => PySem.W.bind_fn I1.kIn self tI) b8 ?_)
  refine codeAny_mono (F1.run _ X.stack _ _ ⟨Value.ref (hp.objs.size + 1) :: us, []⟩ (Value.ref (hp.objs.size + 1) :: (us ++ ds)) _ _ (fun _ _ _ => False) (hr.make C us []) (I2.env0.make C us []) (hb _ (Value.ref (hp.objs.size + 1) :: us) I2.kIn b7) b6 b3) fun r s' b9 => ?_
  cases r with
  | error er => exact hx pins σ _ _ er s' I2 b9
  | ok fl =>
    cases fl with
    | ret u =>
      obtain ⟨v, H2, os2, bare2, un2, hok2, rv, ev, d, fs, ea, ed, hd1, q2⟩ := b9
      subst ev
      obtain ⟨h2, g2, d2, t2, os'⟩ := s'
      exact ⟨rv, mk_end (raises_own T.exC T.tyC) I1 (Nat.le_succ _) b4 un2 hok2 os2 bare2 ea ed hd1 q2⟩
    | next => exact False.elim b9
    | brk => exact False.elim b9
    | cont => exact False.elim b9
end
end L2

namespace PySem
namespace Fm6
open PySem.W Builtin Builtin.ObjectAttr
section
variable {prog : Program} {w : World} {A : Around} {R : Result → Shared → Prop} {hp : Heap} {g : Array GenState} {d : Drawn} {t : Nat} {os : OsState} {tl : List Value}
end
end Fm6
end PySem

namespace PySem
namespace Fm6
open PySem.W PySem.Calls PyProof.Rows Builtin Builtin.ObjectAttr
/-- the two rows of such an __init__ -/
abbrev iBody (txt sf fld par : Str) (p0 p1 p2 p3 p4 p5 q0 q1 q2 q3 : Pos) (j : Nat) : List Stmt :=
  [.Expr (.Call (.Attribute (.Call (.Name "super" p0) [] [] p1) "__init__" p2) [.Constant (.str txt) j p5] [] p3) p4, .Assign [.Attribute (.Name sf q0) fld q1] (.Name par q2) q3]
section
variable {prog : Program} {w : World} {A : Around} {E : Value → Shared → Prop} {h : Heap} {g : Array GenState} {d : Drawn} {t : Nat} {os : OsState} {B ini newId : String} {tl : List Value} {K : Frag}
variable {nm q : Str} {C N : Addr} {bs : List Value} {sn : List Str} {sub : List Value} {ab : Bool} {col : Option Bool} {dd : Option Addr} {k0 k1 k2 k3 k5 : Option Value}
end
end Fm6
end PySem

namespace L2
open PySem PySem.Spec PyProof.Rows PySem.W PySem.Fm6
/-- what such an __init__ promises -/
def spInit (C : Addr) (fld : Str) : Sp := fun vs H Q _ => ∃ (a : Addr) (y : V), vs = [.ref a, y] ∧ H a = some (exo a C none) ∧ ∀ dx, H dx = none → dx ≠ a → Q .non (upd (upd H dx (exd dx [(fld, y)])) a (exo a C (some dx)))
section
variable {P : Program} {w : World} {K : Frag} {mg : Str → Option Value} {base : Heap} {CX : CXT} {k : Nat} {B ini newId : String} {tl : List Value} {C : Addr}
end
end L2

namespace L2N
open PySem PySem.Spec PyProof.Rows L2
section
variable {X : Cx} {e : Expr} {es : List Expr} {ta : TA} {p pos : Pos} {B newId ini : String} {tl : List Value}
/-- C(..), C right over B, with an __init__ of its own -/
theorem pmk_oxb {CX : CXT} {x : Str} {C fI : Addr} {k : Nat} {fd : FuncData} {ps : List Str} {sp : Sp} {ds : List Value} {dvs : List V} (G : ExcBaseFacts B newId ini tl) (T : OexB X.K C newId tl) (iC : PySem.W.findIn X.K (.ref C) "__init__" = some (some (.ref fI)))
    (tI : PySem.W.typeIn X.K (.ref fI) = some (.type "function")) (F1 : FnOk X.prog X.w X.K X.mg X.base CX k fI fd ps sp) (hr : Room (k + 1) X.A) (hb : Binds X.K fd ps ds) (hd : Vals dvs ds) (hx : Passes CX X (fun _ _ _ => False)) (hg : Gl X x) (hm : X.mg x = some (.ref C))
    (ha : PA X (e :: es) ta) (hdb : (x == ("__debug__" : Str)) = false := by decide) (he : starEach (e :: es) X.env = (false, eval e X.env) :: starEach es X.env := by rfl) (hpl : (backTo pos (starEach es X.env)).any (·.1) = false := by rfl) :
    L2N.PMk X (.Call (.Name x p) (e :: es) [] pos) (tMkO C sp dvs ta) := by
  intro pins s σ H Q I h
  obtain ⟨nm, q, N, bs, sn, sub, ab, col, dd, k0, k1, k2, k3, k5, hC⟩ := T.cls
  refine wpAny_Call_Name_kw (ld_glob I hg hm ?_ hdb)
  refine PySem.W.callWith_K (h₀ := X.base) I.ok.mod.kin T.kC (thn (ha.run pos pins s σ H _ I h) fun us s1 b1 => ?_) he hpl
  obtain ⟨vs, H1, I1, r1, hz, q1⟩ := b1
  refine ⟨I1.kIn, ?_⟩
  show wpAny _ _ (call (.ref C) us) _ _ _
  obtain ⟨hp, g, dr, tk, os⟩ := s1
  have b2 : H1 (hp.objs.size + 1) = none := I1.hok.fresh (Nat.le_succ _)
  have b3 := q1 (hp.objs.size + 1) b2
  have b4 : ∀ b o, hp.get? b = some o → ((hp.push (PySem.W.kdv_tup us)).push (PySem.HandSPX.excO C hp.objs.size)).get? b = some o := fun b o z => Heap.get?_push_of_some _ (Heap.get?_push_of_some _ z)
  have b5 : ((hp.push (PySem.W.kdv_tup us)).push (PySem.HandSPX.excO C hp.objs.size)).get? (hp.objs.size + 1) = some (PySem.HandSPX.excO C hp.objs.size) := by heap_get
  have I2 := I1.laid (t' := tk) (a := hp.objs.size + 1) (o := exo (hp.objs.size + 1) C none) b4 (Nat.le_succ _) (exo_ok b5)
  have b6 : Vals (V.ref (hp.objs.size + 1) :: (vs ++ dvs)) (Value.ref (hp.objs.size + 1) :: (us ++ ds)) := .cons rfl (r1.append hd)
  have b7 : (Value.ref (hp.objs.size + 1) :: us ++ ds).length = ps.length := ((F1.len _ _ _ _ b3).symm.trans b6.length).symm
  have b8 : us.length ≤ sizeLine := by
    have := Paired.length r1
    rw [sizeLine_eq]
    omega
  refine wpAny_call (PySem.HandSPX.call_own G (fun Y => rfl) (I1.kIn _ _ hC) (PySem.W.looks_findIn I1.kIn iC) (fun self => PySem.W.bind_fn I1.kIn self tI) b8 ?_)
  refine codeAny_mono (F1.run _ X.stack _ _ ⟨Value.ref (hp.objs.size + 1) :: us, []⟩ (Value.ref (hp.objs.size + 1) :: (us ++ ds)) _ _ (fun _ _ _ => False) (hr.make C us []) (I2.env0.make C us []) (hb _ (Value.ref (hp.objs.size + 1) :: us) I2.kIn b7) b6 b3) fun r s' b9 => ?_
  cases r with
  | error er => exact hx pins σ _ _ er s' I2 b9
  | ok fl =>
    cases fl with
    | ret u =>
      obtain ⟨v, H2, os2, bare2, un2, hok2, rv, ev, d, fs, ea, ed, hd1, q2⟩ := b9
      subst ev
      obtain ⟨h2, g2, d2, t2, os'⟩ := s'
      obtain ⟨t0, G2, J, kG, ge, hoe, na⟩ := mk_end0 (d2 := d2) (t2 := t2) I1 (Nat.le_succ _) b4 un2 hok2 os2 bare2 ea ed hd1
      refine ⟨rv, hp.objs.size + 1, _, _, ⟨G2, g2, d2, t2, os'⟩, _, .ref C, some d, rfl, J, kG, ge, hoe, ⟨rfl, rfl, ?_⟩, rfl, rfl, na, rfl, bare2, raises_own T.exC T.tyC, q2⟩
      intro vs z
      cases z
      rfl
    | next => exact False.elim b9
    | brk => exact False.elim b9
    | cont => exact False.elim b9
end
end L2N

namespace Fm
open PySem PySem.Spec PyProof.Rows L2 PySem.Fm6
/-- what is known of OverNought where it is raised -/
structure OverC (P : Program) (w : World) (K : PySem.W.Frag) (mg : Str → Option Value) (base : Heap) (fI : Addr) (fd : FuncData) : Prop where
  T : OexB K (He.ga K "OverNought") "ZeroDivisionError.__new__" [.type "ZeroDivisionError", .type "ArithmeticError", .type "Exception", .type "BaseException", .type "object"]
  i : PySem.W.findIn K (.ref (He.ga K "OverNought")) "__init__" = some (some (.ref fI))
  ty : PySem.W.typeIn K (.ref fI) = some (.type "function")
  fn : FnOk P w K mg base C8.CX0 1 fI fd ["self", "top"] (spInit (He.ga K "OverNought") "top")
  b : Binds K fd ["self", "top"] []
  g : mg "OverNought" = some (.ref (He.ga K "OverNought"))
/-- one number over another -/
def ovrF (g : Int) (x y : Int × Int) : Int × Int := lowF g (x.1 * y.2) (x.2 * y.1)
theorem TN.topN {g : Int} {k : Nat} {a : Int × Int} (h : TN g k a) (hz : a.1 ≠ 0) : g ≠ 0 → a.1.fmod g ≠ 0 := fun z => by
  have g0 := h.gpos z
  rcases h.1 with ⟨w, _⟩ | ⟨_, a0, a1, _⟩
  · exact absurd w z
  · rw [fmod_pos _ g0, Int.emod_eq_of_lt a0 a1]
    exact hz
end Fm

namespace Fm
open Lean.Grind PySem L2
/-- one number less another -/
def lessF (g : Int) (x y : Int × Int) : Int × Int := lowF g (x.1 * y.2 - y.1 * x.2) (x.2 * y.2)
section
variable {g : Int} {k l : Nat} {a c : Int × Int}
theorem dn2 (hg : g = 0 ∨ Gr5 g) (ha : TN g k a) (hc : TN g l c) : a.2 * c.2 ≠ 0 ∧ (g ≠ 0 → (a.2 * c.2).fmod g ≠ 0) := by
  refine ⟨Int.mul_ne_zero (ha.inv hg).1 (hc.inv hg).1, fun z => ?_⟩
  have g0 := ha.gpos z
  rw [ha.one g0, hc.one g0]
  exact one_fmod (hg.resolve_left z)
theorem dif_lt {u v : Int} {k : Nat} (h1 : u.natAbs < 2 ^ k) (h2 : v.natAbs < 2 ^ k) : (u - v).natAbs < 2 ^ (k + 1) := by
  rw [Nat.pow_succ]
  omega
theorem tn_less (hg : g = 0 ∨ Gr5 g) (ha : TN g k a) (hc : TN g l c) (hk : 4 ≤ k) : TN g (k + l + 1) (lessF g a c) :=
  tn_low hg (dn2 hg ha hc).1 (dn2 hg ha hc).2 (by omega) (dif_lt (wide_lt ha.2.1 hc.2.2) (by have := wide_lt hc.2.1 ha.2.2; rwa [Nat.add_comm] at this))
    (Nat.lt_of_lt_of_le (wide_lt ha.2.2 hc.2.2) (Nat.pow_le_pow_right (by decide) (Nat.le_succ _)))
theorem GV.less {F : Type} [CommRing F] (V : GV g F) (hg : g = 0 ∨ Gr5 g) (ha : TN g k a) (hc : TN g l c) : V.e (lessF g a c) = V.e a - V.e c := by
  obtain ⟨e1, n1⟩ := V.tn hg ha
  obtain ⟨e2, n2⟩ := V.tn hg hc
  have e3 := V.low (u := a.1 * c.2 - c.1 * a.2) hg (dn2 hg ha hc).1 (dn2 hg ha hc).2
  have e4 : V.e (lessF g a c) * V.i (a.2 * c.2) = V.i (a.1 * c.2 - c.1 * a.2) := e3
  refine V.cancel (z := V.i a.2 * V.i c.2) ?_ (fun z => n2 (V.dom z n1))
  rw [V.isub, V.imul, V.imul, V.imul] at e4
  grind
/-- less: plus the contrary -/
theorem less_eq (hg : g = 0 ∨ Gr5 g) (ha : TN g k a) (hc : TN g l c) (hk : 4 ≤ k) (hl : 4 ≤ l) : plusF g a (minusF g c) = lessF g a c := by
  obtain ⟨F, R, ⟨V⟩⟩ := gv_any hg
  have m := tn_minus hg hc hl
  refine V.inj hg (tn_plus hg ha m hk) (tn_less hg ha hc hk) ?_
  rw [V.plus hg ha m, V.minus hg hc, V.less hg ha hc]
  grind
/-- what is divided is a number again -/
theorem tn_ovr (hg : g = 0 ∨ Gr5 g) (ha : TN g k a) (hc : TN g l c) (hk : 4 ≤ k) (hz : c.1 ≠ 0) : TN g (k + l) (ovrF g a c) :=
  tn_low hg (Int.mul_ne_zero (ha.inv hg).1 hz) (fun z => by
    rw [ha.one (ha.gpos z), Int.one_mul]
    exact hc.topN hz z) (by omega) (wide_lt ha.2.1 hc.2.2) (wide_lt ha.2.2 hc.2.1)
end
end Fm

namespace Fm
open Lean.Grind PySem L2
/-! ### sums of products, and numbers of four parts -/
section
variable {g : Int} {F : Type} [CommRing F]
theorem tn_zero (hg : g = 0 ∨ Gr5 g) : TN g 4 (0, 1) := by
  refine ⟨?_, by decide, by decide⟩
  rcases hg with h | h
  · exact .inl ⟨h, by decide, by decide⟩
  · refine .inr ⟨?_, by decide, ?_, rfl⟩
    · unfold Gr5 at h; omega
    · show (0 : Int) < g
      unfold Gr5 at h; omega
theorem tn_one (hg : g = 0 ∨ Gr5 g) : TN g 4 (1, 1) := by
  refine ⟨?_, by decide, by decide⟩
  rcases hg with h | h
  · exact .inl ⟨h, by decide, by decide⟩
  · refine .inr ⟨?_, by decide, ?_, rfl⟩
    · unfold Gr5 at h; omega
    · show (1 : Int) < g
      unfold Gr5 at h; omega
theorem GV.fold (V : GV g F) (hg : g = 0 ∨ Gr5 g) {m : Nat} : ∀ (as : List (Int × Int)) (p : Int × Int) (l : Nat), TN g l p → 4 ≤ l → (∀ a ∈ as, TN g m a) → V.e (as.foldl (plusF g) p) = (as.map V.e).foldl (· + ·) (V.e p)
  | [], p, l, hp, _, _ => rfl
  | a :: as, p, l, hp, hl, h => by
    have ha := h a (List.mem_cons_self ..)
    have h1 := tn_plus hg hp ha hl
    rw [List.foldl_cons, V.fold hg as _ _ h1 (by omega) fun b hb => h b (List.mem_cons_of_mem _ hb), List.map_cons, List.foldl_cons, V.plus hg hp ha]
theorem GV.cell (V : GV g F) (hg : g = 0 ∨ Gr5 g) {k l : Nat} {r s : List (Int × Int)} (hr : ∀ a ∈ r, TN g k a) (hs : ∀ a ∈ s, TN g l a) (hk : 4 ≤ k) : V.e (cellF g r s) = (List.zipWith (fun a b => V.e a * V.e b) r s).foldl (· + ·) 0 := by
  unfold cellF
  rw [V.fold hg (List.zipWith (timesF g) r s) (0, 1) 4 (tn_zero hg) (Nat.le_refl _) (m := k + l) (fun a ha => by
    obtain ⟨i, hi, rfl⟩ := List.mem_iff_getElem.mp ha
    rw [List.getElem_zipWith]
    rw [List.length_zipWith] at hi
    exact tn_times hg (hr _ (List.getElem_mem (by omega))) (hs _ (List.getElem_mem (by omega))) hk), V.zero, List.map_zipWith]
  congr 1
  refine List.ext_getElem (by rw [List.length_zipWith, List.length_zipWith]) fun i h1 h2 => ?_
  rw [List.length_zipWith] at h1
  rw [List.getElem_zipWith, List.getElem_zipWith, V.times hg (hr _ (List.getElem_mem (by omega))) (hs _ (List.getElem_mem (by omega)))]
theorem GV.injL (V : GV g F) (hg : g = 0 ∨ Gr5 g) {k l : Nat} : ∀ {r s : List (Int × Int)}, (∀ a ∈ r, TN g k a) → (∀ a ∈ s, TN g l a) → r.map V.e = s.map V.e → r = s
  | [], [], _, _, _ => rfl
  | [], _ :: _, _, _, h => by cases h
  | _ :: _, [], _, _, h => by cases h
  | a :: r, c :: s, hr, hs, h => by
    rw [List.map_cons, List.map_cons] at h
    injection h with h1 h2
    rw [V.inj hg (hr a (List.mem_cons_self ..)) (hs c (List.mem_cons_self ..)) h1, V.injL hg (fun x hx => hr x (List.mem_cons_of_mem _ hx)) (fun x hx => hs x (List.mem_cons_of_mem _ hx)) h2]
theorem TN.okn (hg : g = 0 ∨ Gr5 g) {k : Nat} {a : Int × Int} (h : TN g k a) : OkN g k a := by
  refine ⟨h.2.1, h.2.2, ?_⟩
  rcases hg with e | h5
  · exact .inl ⟨e, h.pos⟩
  · have : 3 ≤ g ∧ g ≤ 13 := by unfold Gr5 at h5; omega
    exact .inr ⟨this.1, this.2, h.one (by omega)⟩
/-- the number -1 -/
def m1F (g : Int) : Int × Int := lowF g (-1) 1
theorem tn_m1 (hg : g = 0 ∨ Gr5 g) : TN g 4 (m1F g) := tn_low hg (by decide) (fun z => one_fmod (hg.resolve_left z)) (Nat.le_refl _) (by decide) (by decide)
theorem GV.m1 (V : GV g F) (hg : g = 0 ∨ Gr5 g) : V.e (m1F g) = -1 := by
  have h := V.low (u := -1) (d := 1) hg (by decide) (fun z => one_fmod (hg.resolve_left z))
  rw [V.i1, V.ineg, V.i1] at h
  unfold m1F
  grind
def negF (g : Int) (x : Int × Int) : Int × Int := timesF g x (m1F g)
theorem tn_neg (hg : g = 0 ∨ Gr5 g) {k : Nat} {a : Int × Int} (h : TN g k a) (hk : 4 ≤ k) : TN g (k + 4) (negF g a) := tn_times hg h (tn_m1 hg) hk
theorem GV.neg (V : GV g F) (hg : g = 0 ∨ Gr5 g) {k : Nat} {a : Int × Int} (h : TN g k a) : V.e (negF g a) = - V.e a := by
  unfold negF
  rw [V.times hg h (tn_m1 hg), V.m1 hg]
  grind
/-- the four times 1, i, j, k -/
def unitsF (g : Int) (a b c d : Int × Int) : List (List (Int × Int)) := [[a, b, c, d], [negF g b, a, d, negF g c], [negF g c, negF g d, a, b], [negF g d, c, negF g b, a]]
def fourF (g : Int) : List (Int × Int) → List (Int × Int) → List (Int × Int)
  | [a, b, c, d], s => (turnF 4 (unitsF g a b c d)).map (cellF g s)
  | _, _ => []
theorem four_is (a b c d : Int × Int) (s : List (Int × Int)) : fourF g [a, b, c, d] s = [cellF g s [a, negF g b, negF g c, negF g d], cellF g s [b, a, negF g d, c], cellF g s [c, d, a, negF g b], cellF g s [d, negF g c, b, a]] := rfl
/-- fours in the field -/
def qmul {F : Type} [CommRing F] : List F → List F → List F
  | [a, b, c, d], [e, f, h, k] => [a * e - b * f - c * h - d * k, a * f + b * e + c * k - d * h, a * h - b * k + c * e + d * f, a * k + b * h - c * f + d * e]
  | _, _ => []
theorem GV.four (V : GV g F) (hg : g = 0 ∨ Gr5 g) {k l : Nat} (hk : 4 ≤ k) (hl : 4 ≤ l) {r s : List (Int × Int)} (hr : ∀ x ∈ r, TN g k x) (hs : ∀ x ∈ s, TN g l x) (h4 : r.length = 4) (h5 : s.length = 4) : (fourF g r s).map V.e = qmul (r.map V.e) (s.map V.e) := by
  match r, h4, s, h5 with
  | [a, b, c, d], _, [e, f, h, j], _ =>
    have ha := hr a (by simp)
    have hb := hr b (by simp)
    have hc := hr c (by simp)
    have hd := hr d (by simp)
    have u : ∀ {x}, TN g k x → TN g (k + 4) x := fun h => h.mono (by omega)
    have v : ∀ {x}, TN g k x → TN g (k + 4) (negF g x) := fun h => tn_neg hg h hk
    have key : ∀ x1 x2 x3 x4 : Int × Int, TN g (k + 4) x1 → TN g (k + 4) x2 → TN g (k + 4) x3 → TN g (k + 4) x4 → V.e (cellF g [e, f, h, j] [x1, x2, x3, x4]) = 0 + V.e e * V.e x1 + V.e f * V.e x2 + V.e h * V.e x3 + V.e j * V.e x4 := fun x1 x2 x3 x4 t1 t2 t3 t4 => by
      rw [V.cell hg hs (l := k + 4) (fun x hx => ?_) hl]
      · rfl
      · simp only [List.mem_cons, List.not_mem_nil, or_false] at hx
        rcases hx with rfl | rfl | rfl | rfl <;> assumption
    rw [four_is]
    simp only [List.map_cons, List.map_nil]
    rw [key _ _ _ _ (u ha) (v hb) (v hc) (v hd), key _ _ _ _ (u hb) (u ha) (v hd) (u hc), key _ _ _ _ (u hc) (u hd) (u ha) (v hb), key _ _ _ _ (u hd) (v hc) (u hb) (u ha), V.neg hg hb, V.neg hg hc, V.neg hg hd]
    unfold qmul
    congr 1
    · grind
    congr 1
    · grind
    congr 1
    · grind
    congr 1
    · grind
/-- the contrary -/
def turn4F (g : Int) : List (Int × Int) → List (Int × Int)
  | a :: r => a :: r.map (minusF g)
  | [] => []
/-- the law's own products -/
def lsF (g : Int) (l : List ((Int × Int) × (Int × Int) × Int)) : List (Int × Int) := l.map fun t => timesF g (lowF g t.2.2 1) (timesF g t.1 t.2.1)
def lrows (a b c d e f h k : Int × Int) : List (List ((Int × Int) × (Int × Int) × Int)) := [[(a, e, 1), (b, f, -1), (c, h, -1), (d, k, -1)], [(a, f, 1), (b, e, 1), (c, k, 1), (d, h, -1)], [(a, h, 1), (b, k, -1), (c, e, 1), (d, f, 1)], [(a, k, 1), (b, h, 1), (c, f, -1), (d, e, 1)]]
def lfourF (g : Int) : List (Int × Int) → List (Int × Int) → List (Int × Int)
  | [a, b, c, d], [e, f, h, k] => (lrows a b c d e f h k).map fun l => (lsF g l).foldl (plusF g) (0, 1)
  | _, _ => []
def SgOk (g : Int) (k : Nat) (t : (Int × Int) × (Int × Int) × Int) : Prop := TN g k t.1 ∧ TN g k t.2.1 ∧ (t.2.2 = 1 ∨ t.2.2 = -1)
theorem sg_tn (hg : g = 0 ∨ Gr5 g) {s : Int} (h : s = 1 ∨ s = -1) : TN g 4 (lowF g s 1) := tn_low hg (by decide) (fun z => one_fmod (hg.resolve_left z)) (Nat.le_refl _) (by rcases h with rfl | rfl <;> decide) (by decide)
theorem GV.sg (V : GV g F) (hg : g = 0 ∨ Gr5 g) {s : Int} : V.e (lowF g s 1) = V.i s := by
  have h := V.low (u := s) (d := 1) hg (by decide) (fun z => one_fmod (hg.resolve_left z))
  rw [V.i1] at h
  grind
theorem ls_tn (hg : g = 0 ∨ Gr5 g) {k : Nat} (hk : 4 ≤ k) {l : List ((Int × Int) × (Int × Int) × Int)} (h : ∀ t ∈ l, SgOk g k t) : ∀ x ∈ lsF g l, TN g (4 + (k + k)) x := fun x hx => by
  obtain ⟨t, ht, rfl⟩ := List.mem_map.mp hx
  obtain ⟨h1, h2, h3⟩ := h t ht
  exact tn_times hg (sg_tn hg h3) (tn_times hg h1 h2 hk) (Nat.le_refl _)
theorem GV.ls (V : GV g F) (hg : g = 0 ∨ Gr5 g) {k : Nat} (hk : 4 ≤ k) {l : List ((Int × Int) × (Int × Int) × Int)} (h : ∀ t ∈ l, SgOk g k t) : V.e ((lsF g l).foldl (plusF g) (0, 1)) = (l.map fun t => V.i t.2.2 * (V.e t.1 * V.e t.2.1)).foldl (· + ·) 0 := by
  rw [V.fold hg (lsF g l) (0, 1) 4 (tn_zero hg) (Nat.le_refl _) (m := 4 + (k + k)) (ls_tn hg hk h), V.zero]
  congr 1
  unfold lsF
  rw [List.map_map]
  refine List.map_congr_left fun t ht => ?_
  obtain ⟨h1, h2, h3⟩ := h t ht
  show V.e (timesF g (lowF g t.2.2 1) (timesF g t.1 t.2.1)) = _
  rw [V.times hg (sg_tn hg h3) (tn_times hg h1 h2 hk), V.times hg h1 h2, V.sg hg]
end
end Fm

namespace Fm
open PySem PySem.Spec PyProof.Rows L2
theorem ps_never {X : Cx} {st : Stmt} : PS X st (fun _ _ _ => False) := ⟨fun _ _ _ _ _ _ h => h.elim⟩
theorem w_glst {K : PySem.W.Frag} {n : Nat} {t : TGs} {a : Addr} {xs : List V} {σ : L2.St} {H : Hp} {R : L2.St → Hp → Prop} (h : H a = some (.lst xs)) (hn : xs.length = n) (q : t xs σ H R) : gLst K n t (.ref a) σ H R := ⟨a, xs, rfl, SqL.of h, hn, q⟩
theorem grb {g : Int} (h : g = 0 ∨ Gr5 g) : 0 ≤ g ∧ g ≤ 13 := by
  unfold Gr5 at h
  omega
/-- the rows of letters alone -/
def onesF (m : Nat) : List (List (Int × Int)) := (List.range m).map fun i => (List.range m).map fun j => (if i = j then 1 else 0, 1)
end Fm
namespace Fm
open PySem PySem.Spec PyProof.Rows L2
theorem acc_app {α : Type} {P : Hp → V → α → Prop} {H : Hp} {ys : List V} {as : List α} {i : Nat} {v : V} {a : α} (h : Acc P H ys as i) (hl : as.length = i) (hv : P H v a) : Acc P H (ys ++ [v]) (as ++ [a]) (i + 1) := by
  refine ⟨by rw [List.length_append, h.1]; rfl, fun j x b h1 h2 => ?_⟩
  by_cases e : j < i
  · rw [List.getElem?_append_left (by rw [h.1]; exact e)] at h1
    rw [List.getElem?_append_left (by omega)] at h2
    exact h.2 j x b h1 h2
  · have hj : j = i := by
      have := (List.getElem?_eq_some_iff.mp h1).1
      rw [List.length_append, h.1] at this
      simp at this
      omega
    subst hj
    rw [List.getElem?_append_right (by rw [h.1]; exact Nat.le_refl _), h.1, Nat.sub_self] at h1
    rw [List.getElem?_append_right (by omega), hl, Nat.sub_self] at h2
    cases h1
    cases h2
    exact hv
/-- a tuple of two numbers and a sign -/
def Tri3 (H : Hp) (v : V) (t : (Int × Int) × (Int × Int) × Int) : Prop := ∃ p vx vy, v = .ref p ∧ H p = some (.tup [vx, vy, .int t.2.2]) ∧ NumV H vx t.1 ∧ NumV H vy t.2.1
theorem Tri3.kt {H H' : Hp} {v : V} {t : (Int × Int) × (Int × Int) × Int} (h : Tri3 H v t) (s : Kt H H') : Tri3 H' v t := by
  obtain ⟨p, vx, vy, rfl, h1, h2, h3⟩ := h
  exact ⟨p, vx, vy, rfl, s _ _ h1, h2.kt s, h3.kt s⟩
def TriL (H : Hp) (v : V) (l : List ((Int × Int) × (Int × Int) × Int)) : Prop := ∃ p xs, v = .ref p ∧ H p = some (.lst xs) ∧ Acc Tri3 H xs l l.length
theorem TriL.sm {H H' : Hp} {v : V} {l : List ((Int × Int) × (Int × Int) × Int)} (h : TriL H v l) (s : Same H H') : TriL H' v l := by
  obtain ⟨p, xs, rfl, h1, h2⟩ := h
  exact ⟨p, xs, rfl, s _ _ h1, h2.mono fun x a h => h.kt (Kt.of s)⟩
/-- a row of numbers of g, of so many signs -/
def TRow (g : Int) (k : Nat) (H : Hp) (v : V) (r : List (Int × Int)) : Prop := RowV H v r ∧ ∀ a ∈ r, TN g k a
end Fm

namespace Fm
open PySem PySem.Spec PyProof.Rows L2
/-! ### calls with keywords: all parameters are told -/
section
variable {K : PySem.W.Frag} {x qual : Str} {params : Arguments} {body : List Stmt} {scope : Scope} {dvs : List V} {kws : List (Str × V)} {f : Addr} {fd : FuncData} {ps : List Str}
theorem bnd_of (F : FunD K x qual params body scope dvs kws f fd) (n : Nat) (hd : dvs ≠ []) (hn : n = ps.length)
    (h : ∀ (T : Addr) (kV doc pm : Value) (an : Option Addr) (cdv ct : Value) (us its : List Value), us.length = n → its.length = dvs.length → ∃ k, bindArgs (PySem.W.fnOf x qual params body scope (.ref T) kV doc pm an cdv ct) ⟨us, []⟩ = seqItems? (.ref T) >>= k ∧ k (some its.toArray) = pure (ps.zip (us ++ its.drop dvs.length))) : L2.Binds K fd ps [] := by
  obtain ⟨ds, hv, hb⟩ := FunD.binds1 (ps := ps) F n dvs.length hd (by omega) h
  rw [List.drop_length] at hv
  cases hv
  exact hb
theorem kbn_of (F : FunD K x qual params body scope dvs kws f fd) {n : Nat} {ks : List Str} {g : List Value → List Value → List Value} {gV : List V → List V → List V} (hd : dvs ≠ [])
    (h : ∀ (T : Addr) (kV doc pm : Value) (an : Option Addr) (cdv ct : Value) (us ws its : List Value), us.length = n → ws.length = ks.length → its.length = dvs.length → ∃ k, bindArgs (PySem.W.fnOf x qual params body scope (.ref T) kV doc pm an cdv ct) ⟨us, ks.zip ws⟩ = seqItems? (.ref T) >>= k ∧ k (some its.toArray) = pure (ps.zip (g us ws)))
    (hrel : ∀ {vs : List V} {us : List Value} {zs : List V} {ws : List Value}, Vals vs us → Vals zs ws → Vals (gV vs zs) (g us ws)) : L2.KBn K fd ps n ks g gV := by
  obtain ⟨_, _, dV, kV, doc, pm, an, cdv, ct, _, rfl, _, _, hD, _⟩ := F.ex
  refine ⟨fun s us ws X l1 l2 => ?_, hrel⟩
  rcases hD with ⟨e, _⟩ | ⟨_, T, o, its, m, rfl, lT, oT, rT⟩
  · exact absurd e hd
  · obtain ⟨k, e1, e2⟩ := h T kV doc pm an cdv ct us ws its l1 l2 rT.length.symm
    refine L2.BindsTo.of_looks fun M => ?_
    rw [e1]
    exact L2.looks_items X lT oT (.of_pure e2)
end
def tCallNS (n m : Nat) (sp : Sp) (gV : List V → List V → List V) (E : L2.St → XK) (t tk : TA) : TE := fun σ H Q => t σ H fun vs H1 => tk σ H1 fun zs H2 => vs.length = n ∧ zs.length = m ∧ sp (gV vs zs) H2 Q (E σ)
def tCallN0 (m : Nat) (sp : Sp) (gV : List V → List V → List V) (E : XK) (tk : TA) : TE := fun σ H Q => tk σ H fun zs H2 => zs.length = m ∧ sp (gV [] zs) H2 Q E
section
variable {X : Cx} {CX : CXT} {k n : Nat} {f : Addr} {fd : FuncData} {ps ks : List Str} {sp : Sp} {x : Str} {p pos : Pos} {e : Expr} {es : List Expr} {kws : List Keyword} {t tk : TA} {g : List Value → List Value → List Value} {gV : List V → List V → List V}
end
end Fm
namespace Fm
open PySem PySem.Spec PyProof.Rows L2
theorem w_callN {n m : Nat} {sp : Sp} {gV : List V → List V → List V} {E : XK} {t tk : TA} {σ : L2.St} {H : Hp} {Q : VK} (h : t σ H fun vs H1 => tk σ H1 fun zs H2 => vs.length = n ∧ zs.length = m ∧ sp (gV vs zs) H2 Q E) : tCallN n m sp gV E t tk σ H Q := h
theorem w_callN0 {m : Nat} {sp : Sp} {gV : List V → List V → List V} {E : XK} {tk : TA} {σ : L2.St} {H : Hp} {Q : VK} (h : tk σ H fun zs H2 => zs.length = m ∧ sp (gV [] zs) H2 Q E) : tCallN0 m sp gV E tk σ H Q := h
end Fm

namespace Fm
open PySem PySem.Spec PyProof.Rows L2 PySem.Fm6
/-! ### a hook that also tells the __init__ of classes -/
def asY (g : Addr → Option Obj) : List Addr := He.asD g 4 ++ [cStatics]
abbrev IW : Type := Option (Str × Str × Arguments × FuncBody × Scope × Addr × List Str × Addr)
def iw (K : PySem.W.Frag) (C : Addr) : IW := match K.lookup (He.ma K C "__init__") with
  | some ⟨_, _, .func fd, _⟩ => some (fd.name, fd.qualname, fd.params, fd.body, fd.scope, fd.globals, fd.closure.map (·.1), fd.builtins)
  | _ => none
abbrev AlY : Type := He.AlX × List IW
section
variable {fa : List He.Fa} {fn : List He.DefD} {ts : List He.Tab} {tf : List He.Defn} {ex : PySem.W.Frag → Bool} {cs : List Str} {vs : List IW} {w : World} {h : Heap}
theorem saysX_as {as : List Addr} (e1 : He.obsT fa fn ts (He.frT h.get? as) = He.valT fn ts w) (e2 : (ex (He.frT h.get? as) && He.tabsB h.get? tf (He.frT h.get? as)) = true) : He.SaysX fa fn ts tf ex w h (He.frT h.get? as) := by
  obtain ⟨h1, h2⟩ := He.ba e2
  have key : ∀ p ∈ tf, PySem.W.codeHdIn (He.frT h.get? as) (He.cT (He.frT h.get? as) p).1 (He.cT (He.frT h.get? as) p).2 = true ∧ ∃ o, h.get? (He.cT (He.frT h.get? as) p).2 = some o ∧ He.emptyTab o = true := fun p hp => by
    have hp2 := List.all_eq_true.mp h2 p hp
    obtain ⟨k1, k2⟩ := He.ba hp2
    refine ⟨k1, ?_⟩
    match q : h.get? (He.cT (He.frT h.get? as) p).2, k2 with
    | some o, k2 => exact ⟨o, rfl, k2⟩
    | none, k2 => cases k2
  refine ⟨e1, h1, fun p hp => (key p hp).1, fun p hp => ?_, fun p hp => ?_⟩
  · obtain ⟨_, o, q, z⟩ := key p hp
    exact He.frT_none q z
  · obtain ⟨_, o, q, z⟩ := key p hp
    rw [q, He.emptyTab_eq z]
def obsY (fa : List He.Fa) (fn : List He.DefD) (ts : List He.Tab) (tf : List He.Defn) (ex : PySem.W.Frag → Bool) (cs : List Str) (g : Addr → Option Obj) : AlY :=
  ((He.obsT fa fn ts (He.frT g (asY g)), ex (He.frT g (asY g)) && He.tabsB g tf (He.frT g (asY g))), cs.map fun c => iw (He.frT g (asY g)) (He.ga (He.frT g (asY g)) c))
structure SaysY (fa : List He.Fa) (fn : List He.DefD) (ts : List He.Tab) (tf : List He.Defn) (ex : PySem.W.Frag → Bool) (cs : List Str) (vs : List IW) (w : World) (h : Heap) (K : PySem.W.Frag) : Prop where
  x : He.SaysX fa fn ts tf ex w h K
  i : (cs.map fun c => iw K (He.ga K c)) = vs
def hookY (fa : List He.Fa) (fn : List He.DefD) (ts : List He.Tab) (tf : List He.Defn) (ex : PySem.W.Frag → Bool) (cs : List Str) (vs : List IW) : PySem.W.Hook where
  α := AlY
  obs := fun s => obsY fa fn ts tf ex cs s.heap.get?
  val := fun w => (He.valX fn ts w, vs)
  says := fun w h => ∃ K : PySem.W.Frag, K.In h ∧ SaysY fa fn ts tf ex cs vs w h K
  of := fun _ _ e => ⟨_, He.frT_in, saysX_as (congrArg (fun z : AlY => z.1.1) e) (congrArg (fun z : AlY => z.1.2) e), congrArg (fun z : AlY => z.2) e⟩
  keeps := fun _ _ _ ⟨K, hK, c⟩ k => ⟨K, PySem.W.Frag.In.keeps hK k, ⟨c.x.t, c.x.more, c.x.hd, c.x.out, fun p hp => k _ _ (c.x.empty p hp)⟩, c.i⟩
end
/-! ### what the written part says of a class right over a built-in one -/
def tysB : List Value → List String → Bool
  | [], [] => true
  | .type a :: r, b :: s => decide (a = b) && tysB r s
  | _, _ => false
def clB (K : PySem.W.Frag) (C : Addr) (newId : String) (ns : List String) : Bool := match K.lookup C with
  | some ⟨.type t, _, .cls cd, sl⟩ => decide (t = "type") && (match cd.mro, sl.toList with
    | .ref C' :: bm, [_, _, _, _, some (.builtin n), _] => decide (C' = C) && (decide (n = newId) && (!cd.hasDel && (cd.hasDict && tysB bm ns)))
    | _, _ => false)
  | _ => false
def inB (K : PySem.W.Frag) (C : Addr) (fl : Str) : Bool := match K.lookup (He.ma K C "__init__") with
  | some ⟨_, _, .func fd, _⟩ => (match fd.defaults with
    | .none => true
    | _ => false) && (PySem.W.codeIn K fd.code fd.qualname && ((match fd.code with
    | .ref c => (match K.lookup c with
      | some ⟨_, _, .fields vs, _⟩ => (match vs.toList with
        | _ :: _ :: .str n _ :: _ => fl == n
        | _ => false)
      | _ => false)
    | _ => false) && (match fd.closure with
    | [(_, cc)] => (match K.lookup cc with
      | some ⟨_, _, .cell (some (.ref C')), _⟩ => decide (C' = C)
      | _ => false)
    | _ => false)))
  | _ => false
def ovB (K : PySem.W.Frag) (C : Addr) (fl : Str) (newId : String) (ns : List String) (fld : Str) : Bool :=
  He.eqO (PySem.W.findIn K (.ref C) "__init__") (some (some (.ref (He.ma K C "__init__")))) && (decide (PySem.W.typeIn K (.ref (He.ma K C "__init__")) = some (.type "function")) && (He.eqO (PySem.W.findIn K (.ref C) "__setattr__") (some (some (.builtin "object.__setattr__"))) &&
  (decide (PySem.W.subIn K (.ref C) (.type "BaseException") = some true) && (decide (PySem.W.typeIn K (.ref C) = some (.type "type")) && (PySem.W.keepIn K (.ref C) && (He.eqO (PySem.W.nsIn K cStatics "thirdparty.any") (some none) && (He.eqO (PySem.W.findIn K (.ref C) fld) (some none) &&
  (clB K C newId ns && inB K C fl))))))))
end Fm

namespace Fm
open PySem PySem.Spec PyProof.Rows L2
theorem kbn0_of {K : PySem.W.Frag} {x qual : Str} {params : Arguments} {body : List Stmt} {scope : Scope} {f : Addr} {fd : FuncData} {ps : List Str} (F : FunD K x qual params body scope [] [] f fd) {n : Nat} {ks : List Str} {g : List Value → List Value → List Value} {gV : List V → List V → List V}
    (h : ∀ (kV doc pm : Value) (an : Option Addr) (cdv ct : Value) (us ws : List Value), us.length = n → ws.length = ks.length → bindArgs (PySem.W.fnOf x qual params body scope .none kV doc pm an cdv ct) ⟨us, ks.zip ws⟩ = pure (ps.zip (g us ws)))
    (hrel : ∀ {vs : List V} {us : List Value} {zs : List V} {ws : List Value}, Vals vs us → Vals zs ws → Vals (gV vs zs) (g us ws)) : L2.KBn K fd ps n ks g gV := by
  obtain ⟨_, _, dV, kV, doc, pm, an, cdv, ct, _, rfl, _, _, hD, _⟩ := F.ex
  refine ⟨fun s us ws X l1 l2 => ?_, hrel⟩
  rcases hD with ⟨_, rfl⟩ | ⟨e, _⟩
  · exact .of_eq (h kV doc pm an cdv ct us ws l1 l2)
  · exact absurd rfl e
/-- what isinstance asks of an own class, as the head looks it up -/
def insB (M : PySem.W.Frag) (x : Str) : Bool := He.eqO (PySem.W.findIn M (.ref (He.ga M x)) "__class__") (some (some (.builtin "object.__class__"))) && (He.eqO (PySem.W.specialIn M (.builtin "object.__class__") "__get__") (some (some (.builtin "getset_descriptor.__get__"))) && (decide (PySem.W.takesIn M (.builtin "object.__class__") = some true) && (decide (PySem.W.mroIn M (He.ga M x) (.type "object") = some true) && decide (PySem.W.kitOne M (.ref (He.ga M x)) (.ref (He.ga M x)) = some true))))
theorem insB_ok {K : PySem.W.Frag} {x : Str} (c : Cls K (He.ga K x)) (h : insB K x = true) : C8.InsC K (He.ga K x) := by
  obtain ⟨h1, h⟩ := He.ba h
  obtain ⟨h2, h⟩ := He.ba h
  obtain ⟨h3, h⟩ := He.ba h
  obtain ⟨h4, h5⟩ := He.ba h
  exact ⟨c, He.eqO_ok h1, He.eqO_ok h2, of_decide_eq_true h3, of_decide_eq_true h4, of_decide_eq_true h5⟩
end Fm

namespace Fm
open PySem PySem.Spec PyProof.Rows L2
def topS (i : Nat) : Stmt := PySem.Challenge.pw_fewmirrors_k28_neighbours_exchanged.main.body.getD i (.Pass ⟨0, 0, 0, 0⟩)
def clsB0 : Stmt → List Stmt
  | .ClassDef (body := b) .. => b
  | _ => []
def d_is_whole : He.DefD := ⟨("is_whole", none), "is_whole", "is_whole", defArgs (topS 11), defBody (topS 11), defScope (topS 11), [], []⟩
def d_common_divisor : He.DefD := ⟨("common_divisor", none), "common_divisor", "common_divisor", defArgs (topS 12), defBody (topS 12), defScope (topS 12), [], []⟩
def d_is_ground : He.DefD := ⟨("is_ground", none), "is_ground", "is_ground", defArgs (topS 15), defBody (topS 15), defScope (topS 15), [], []⟩
def d_is_number : He.DefD := ⟨("is_number", none), "is_number", "is_number", defArgs (topS 16), defBody (topS 16), defScope (topS 16), [], []⟩
def d_is_nought_on : He.DefD := ⟨("is_nought_on", none), "is_nought_on", "is_nought_on", defArgs (topS 17), defBody (topS 17), defScope (topS 17), [], []⟩
def d_lowest : He.DefD := ⟨("lowest", none), "lowest", "lowest", defArgs (topS 18), defBody (topS 18), defScope (topS 18), [], []⟩
def d_wheel_back : He.DefD := ⟨("wheel_back", none), "wheel_back", "wheel_back", defArgs (topS 19), defBody (topS 19), defScope (topS 19), [], []⟩
def d_is_row : He.DefD := ⟨("is_row", none), "is_row", "is_row", defArgs (topS 24), defBody (topS 24), defScope (topS 24), [], []⟩
def d_is_table : He.DefD := ⟨("is_table", none), "is_table", "is_table", defArgs (topS 25), defBody (topS 25), defScope (topS 25), [], []⟩
def d_through : He.DefD := ⟨("through", none), "through", "through", defArgs (topS 26), defBody (topS 26), defScope (topS 26), [], []⟩
def d_product : He.DefD := ⟨("product", none), "product", "product", defArgs (topS 27), defBody (topS 27), defScope (topS 27), [], []⟩
def d_product_row : He.DefD := ⟨("product_row", none), "product_row", "product_row", defArgs (topS 28), defBody (topS 28), defScope (topS 28), [], []⟩
def d_dot : He.DefD := ⟨("dot", none), "dot", "dot", defArgs (topS 29), defBody (topS 29), defScope (topS 29), [], []⟩
def d_whole_row : He.DefD := ⟨("whole_row", none), "whole_row", "whole_row", defArgs (topS 30), defBody (topS 30), defScope (topS 30), [], []⟩
def d_whole_table : He.DefD := ⟨("whole_table", none), "whole_table", "whole_table", defArgs (topS 31), defBody (topS 31), defScope (topS 31), [], []⟩
def d_turned : He.DefD := ⟨("turned", none), "turned", "turned", defArgs (topS 32), defBody (topS 32), defScope (topS 32), [], []⟩
def d_determinant : He.DefD := ⟨("determinant", none), "determinant", "determinant", defArgs (topS 33), defBody (topS 33), defScope (topS 33), [], []⟩
def d_whole_determinant : He.DefD := ⟨("whole_determinant", none), "whole_determinant", "whole_determinant", defArgs (topS 34), defBody (topS 34), defScope (topS 34), [], []⟩
def d_smaller_row : He.DefD := ⟨("smaller_row", none), "smaller_row", "smaller_row", defArgs (topS 35), defBody (topS 35), defScope (topS 35), [], []⟩
def d_head_place : He.DefD := ⟨("head_place", none), "head_place", "head_place", defArgs (topS 36), defBody (topS 36), defScope (topS 36), [], []⟩
def d_table_of_ones : He.DefD := ⟨("table_of_ones", none), "table_of_ones", "table_of_ones", defArgs (topS 37), defBody (topS 37), defScope (topS 37), [], []⟩
def d_plain : He.DefD := ⟨("plain", none), "plain", "plain", defArgs (topS 41), defBody (topS 41), defScope (topS 41), [], []⟩
def d_is_form_table : He.DefD := ⟨("is_form_table", none), "is_form_table", "is_form_table", defArgs (topS 52), defBody (topS 52), defScope (topS 52), [], []⟩
def d_want_rows : He.DefD := ⟨("want_rows", none), "want_rows", "want_rows", defArgs (topS 53), defBody (topS 53), defScope (topS 53), [], []⟩
def d_want_list_of_rows : He.DefD := ⟨("want_list_of_rows", none), "want_list_of_rows", "want_list_of_rows", defArgs (topS 54), defBody (topS 54), defScope (topS 54), [], []⟩
def d_want_worths : He.DefD := ⟨("want_worths", none), "want_worths", "want_worths", defArgs (topS 55), defBody (topS 55), defScope (topS 55), [], []⟩
def d_products : He.DefD := ⟨("products", none), "products", "products", defArgs (topS 56), defBody (topS 56), defScope (topS 56), [], []⟩
def d_worth_of : He.DefD := ⟨("worth_of", none), "worth_of", "worth_of", defArgs (topS 57), defBody (topS 57), defScope (topS 57), [], []⟩
def d_first_changed : He.DefD := ⟨("first_changed", none), "first_changed", "first_changed", defArgs (topS 61), defBody (topS 61), defScope (topS 61), [], []⟩
def d_mirror : He.DefD := ⟨("mirror", none), "mirror", "mirror", defArgs (topS 64), defBody (topS 64), defScope (topS 64), [], []⟩
def d_mirrors_table : He.DefD := ⟨("mirrors_table", none), "mirrors_table", "mirrors_table", defArgs (topS 65), defBody (topS 65), defScope (topS 65), [], []⟩
def d_whole_mirrors : He.DefD := ⟨("whole_mirrors", none), "whole_mirrors", "whole_mirrors", defArgs (topS 66), defBody (topS 66), defScope (topS 66), [], []⟩
def d_mirrored : He.DefD := ⟨("mirrored", none), "mirrored", "mirrored", defArgs (topS 67), defBody (topS 67), defScope (topS 67), [], []⟩
def d_exchanged : He.DefD := ⟨("exchanged", none), "exchanged", "exchanged", defArgs (topS 69), defBody (topS 69), defScope (topS 69), [], []⟩
def d__law_bag : He.DefD := ⟨("_law_bag", none), "_law_bag", "_law_bag", defArgs (topS 71), defBody (topS 71), defScope (topS 71), [], []⟩
def d__law_take : He.DefD := ⟨("_law_take", none), "_law_take", "_law_take", defArgs (topS 72), defBody (topS 72), defScope (topS 72), [], []⟩
def d__law_mixed : He.DefD := ⟨("_law_mixed", none), "_law_mixed", "_law_mixed", defArgs (topS 73), defBody (topS 73), defScope (topS 73), [], []⟩
def d__law_shared : He.DefD := ⟨("_law_shared", none), "_law_shared", "_law_shared", defArgs (topS 74), defBody (topS 74), defScope (topS 74), [], []⟩
def d__law_low : He.DefD := ⟨("_law_low", none), "_law_low", "_law_low", defArgs (topS 75), defBody (topS 75), defScope (topS 75), [], []⟩
def d__law_plus : He.DefD := ⟨("_law_plus", none), "_law_plus", "_law_plus", defArgs (topS 76), defBody (topS 76), defScope (topS 76), [], []⟩
def d__law_times : He.DefD := ⟨("_law_times", none), "_law_times", "_law_times", defArgs (topS 77), defBody (topS 77), defScope (topS 77), [], []⟩
def d__law_minus : He.DefD := ⟨("_law_minus", none), "_law_minus", "_law_minus", defArgs (topS 78), defBody (topS 78), defScope (topS 78), [], []⟩
def d__law_over : He.DefD := ⟨("_law_over", none), "_law_over", "_law_over", defArgs (topS 79), defBody (topS 79), defScope (topS 79), [], []⟩
def d__law_sum : He.DefD := ⟨("_law_sum", none), "_law_sum", "_law_sum", defArgs (topS 80), defBody (topS 80), defScope (topS 80), [], []⟩
def d__law_scaled : He.DefD := ⟨("_law_scaled", none), "_law_scaled", "_law_scaled", defArgs (topS 81), defBody (topS 81), defScope (topS 81), [], []⟩
def d__law_added : He.DefD := ⟨("_law_added", none), "_law_added", "_law_added", defArgs (topS 82), defBody (topS 82), defScope (topS 82), [], []⟩
def d__law_through : He.DefD := ⟨("_law_through", none), "_law_through", "_law_through", defArgs (topS 83), defBody (topS 83), defScope (topS 83), [], []⟩
def d__law_product : He.DefD := ⟨("_law_product", none), "_law_product", "_law_product", defArgs (topS 84), defBody (topS 84), defScope (topS 84), [], []⟩
def d__law_turned : He.DefD := ⟨("_law_turned", none), "_law_turned", "_law_turned", defArgs (topS 85), defBody (topS 85), defScope (topS 85), [], []⟩
def d__law_ones : He.DefD := ⟨("_law_ones", none), "_law_ones", "_law_ones", defArgs (topS 86), defBody (topS 86), defScope (topS 86), [], []⟩
def d__law_pair : He.DefD := ⟨("_law_pair", none), "_law_pair", "_law_pair", defArgs (topS 87), defBody (topS 87), defScope (topS 87), [], []⟩
def d__law_worth : He.DefD := ⟨("_law_worth", none), "_law_worth", "_law_worth", defArgs (topS 88), defBody (topS 88), defScope (topS 88), [], []⟩
def d__law_mirror : He.DefD := ⟨("_law_mirror", none), "_law_mirror", "_law_mirror", defArgs (topS 89), defBody (topS 89), defScope (topS 89), [], []⟩
def d__law_made : He.DefD := ⟨("_law_made", none), "_law_made", "_law_made", defArgs (topS 90), defBody (topS 90), defScope (topS 90), [], []⟩
def d__law_ground : He.DefD := ⟨("_law_ground", none), "_law_ground", "_law_ground", defArgs (topS 91), defBody (topS 91), defScope (topS 91), [], []⟩
def d__law_number : He.DefD := ⟨("_law_number", none), "_law_number", "_law_number", defArgs (topS 92), defBody (topS 92), defScope (topS 92), [], []⟩
def d__law_other_than_nought : He.DefD := ⟨("_law_other_than_nought", none), "_law_other_than_nought", "_law_other_than_nought", defArgs (topS 93), defBody (topS 93), defScope (topS 93), [], []⟩
def d__law_row : He.DefD := ⟨("_law_row", none), "_law_row", "_law_row", defArgs (topS 94), defBody (topS 94), defScope (topS 94), [], []⟩
def d__law_letters : He.DefD := ⟨("_law_letters", none), "_law_letters", "_law_letters", defArgs (topS 95), defBody (topS 95), defScope (topS 95), [], []⟩
def d__law_changed : He.DefD := ⟨("_law_changed", none), "_law_changed", "_law_changed", defArgs (topS 96), defBody (topS 96), defScope (topS 96), [], []⟩
def d__law_form : He.DefD := ⟨("_law_form", none), "_law_form", "_law_form", defArgs (topS 97), defBody (topS 97), defScope (topS 97), [], []⟩
def d__law_with_worth : He.DefD := ⟨("_law_with_worth", none), "_law_with_worth", "_law_with_worth", defArgs (topS 98), defBody (topS 98), defScope (topS 98), [], []⟩
def d__law_mirrors : He.DefD := ⟨("_law_mirrors", none), "_law_mirrors", "_law_mirrors", defArgs (topS 99), defBody (topS 99), defScope (topS 99), [], []⟩
def d__law_is_exchanged : He.DefD := ⟨("_law_is_exchanged", none), "_law_is_exchanged", "_law_is_exchanged", defArgs (topS 100), defBody (topS 100), defScope (topS 100), [], []⟩
def d_law : He.DefD := ⟨("law", none), "law", "law", defArgs (topS 101), defBody (topS 101), defScope (topS 101), [], []⟩
def d_Form___init__ : He.DefD := ⟨("Form", some "__init__"), "__init__", "Form.__init__", defArgs ((clsB0 (topS 51)).getD 0 (.Pass ⟨0, 0, 0, 0⟩)), defBody ((clsB0 (topS 51)).getD 0 (.Pass ⟨0, 0, 0, 0⟩)), defScope ((clsB0 (topS 51)).getD 0 (.Pass ⟨0, 0, 0, 0⟩)), [.int 0], []⟩
def d_Keeper___init__ : He.DefD := ⟨("Keeper", some "__init__"), "__init__", "Keeper.__init__", defArgs ((clsB0 (topS 60)).getD 0 (.Pass ⟨0, 0, 0, 0⟩)), defBody ((clsB0 (topS 60)).getD 0 (.Pass ⟨0, 0, 0, 0⟩)), defScope ((clsB0 (topS 60)).getD 0 (.Pass ⟨0, 0, 0, 0⟩)), [], []⟩
def d_Keeper_of : He.DefD := ⟨("Keeper", some "of"), "of", "Keeper.of", defArgs ((clsB0 (topS 60)).getD 5 (.Pass ⟨0, 0, 0, 0⟩)), defBody ((clsB0 (topS 60)).getD 5 (.Pass ⟨0, 0, 0, 0⟩)), defScope ((clsB0 (topS 60)).getD 5 (.Pass ⟨0, 0, 0, 0⟩)), [], []⟩
def fn : List He.DefD := [d_is_whole, d_common_divisor, d_is_ground, d_is_number, d_is_nought_on, d_lowest, d_wheel_back, d_is_row, d_is_table, d_through, d_product, d_product_row, d_dot, d_whole_row, d_whole_table, d_turned, d_determinant, d_whole_determinant, d_smaller_row, d_head_place, d_table_of_ones, d_plain, d_is_form_table, d_want_rows, d_want_list_of_rows, d_want_worths, d_products, d_worth_of, d_first_changed, d_mirror, d_mirrors_table, d_whole_mirrors, d_mirrored, d_exchanged, d__law_bag, d__law_take, d__law_mixed, d__law_shared, d__law_low, d__law_plus, d__law_times, d__law_minus, d__law_over, d__law_sum, d__law_scaled, d__law_added, d__law_through, d__law_product, d__law_turned, d__law_ones, d__law_pair, d__law_worth, d__law_mirror, d__law_made, d__law_ground, d__law_number, d__law_other_than_nought, d__law_row, d__law_letters, d__law_changed, d__law_form, d__law_with_worth, d__law_mirrors, d__law_is_exchanged, d_law, d_Form___init__, d_Keeper___init__, d_Keeper_of]
def fa : List He.Fa := [.glo "is_whole", .glo "common_divisor", .glo "is_ground", .glo "is_number", .glo "is_nought_on", .glo "lowest", .glo "wheel_back", .glo "is_row", .glo "is_table", .glo "through", .glo "product", .glo "product_row", .glo "dot", .glo "whole_row", .glo "whole_table", .glo "turned", .glo "determinant", .glo "whole_determinant", .glo "smaller_row", .glo "head_place", .glo "table_of_ones", .glo "plain", .glo "is_form_table", .glo "want_rows", .glo "want_list_of_rows", .glo "want_worths", .glo "products", .glo "worth_of", .glo "first_changed", .glo "mirror", .glo "mirrors_table", .glo "whole_mirrors", .glo "mirrored", .glo "exchanged", .glo "_law_bag", .glo "_law_take", .glo "_law_mixed", .glo "_law_shared", .glo "_law_low", .glo "_law_plus", .glo "_law_times", .glo "_law_minus", .glo "_law_over", .glo "_law_sum", .glo "_law_scaled", .glo "_law_added", .glo "_law_through", .glo "_law_product", .glo "_law_turned", .glo "_law_ones", .glo "_law_pair", .glo "_law_worth", .glo "_law_mirror", .glo "_law_made", .glo "_law_ground", .glo "_law_number", .glo "_law_other_than_nought", .glo "_law_row", .glo "_law_letters", .glo "_law_changed", .glo "_law_form", .glo "_law_with_worth", .glo "_law_mirrors", .glo "_law_is_exchanged", .glo "law", .free "isinstance", .free "int", .free "bool", .free "abs", .free "tuple", .free "len", .free "all", .free "sum", .free "zip", .free "range", .free "list", .free "enumerate", .free "max", .free "min", .glo "GROUNDS", .int "MOST_LETTERS" 5, .int "MOST_LETTERS_ON_A_WHEEL" 4, .glo "Form", .cls "Form", .mkr "Form", .noat "Form" "table", .noat "Form" "ground", .glo "Keeper", .cls "Keeper", .mkr "Keeper", .meth "Keeper" "of", .noat "Keeper" "form", .noat "Keeper" "table"]
def more (M : PySem.W.Frag) : Bool := He.tupB M "GROUNDS" [.int 0, .int 3, .int 5, .int 7, .int 11, .int 13] && insB M "Form"
abbrev R : PySem.W.OpenRow := PySem.W.OpenLaw.row PySem.Challenge.rw_fewmirrors_k28_neighbours_exchanged
def seen (M : PySem.W.Frag) : He.AlD × Bool := (He.obsD fa fn M, more M)
/-- the objects that the facts name: the functions with their code, the classes with their methods -/
def nmF : List PySem.Str := (["is_whole", "common_divisor", "is_ground", "is_number", "is_nought_on", "lowest", "wheel_back", "is_row", "is_table", "through", "product", "product_row", "dot", "whole_row", "whole_table", "turned", "determinant", "whole_determinant", "smaller_row", "head_place"] : List PySem.Str) ++ (["table_of_ones", "plain", "is_form_table", "want_rows", "want_list_of_rows", "want_worths", "products", "worth_of", "first_changed", "mirror", "mirrors_table", "whole_mirrors", "mirrored", "exchanged", "_law_bag", "_law_take", "_law_mixed", "_law_shared", "_law_low", "_law_plus"] : List PySem.Str) ++ (["_law_times", "_law_minus", "_law_over", "_law_sum", "_law_scaled", "_law_added", "_law_through", "_law_product", "_law_turned", "_law_ones", "_law_pair", "_law_worth", "_law_mirror", "_law_made", "_law_ground", "_law_number", "_law_other_than_nought", "_law_row", "_law_letters", "_law_changed"] : List PySem.Str) ++ (["_law_form", "_law_with_worth", "_law_mirrors", "_law_is_exchanged", "law", "GROUNDS"] : List PySem.Str)
def nmC : List PySem.Str := ["Form", "Keeper"]
def rfs (g : Addr → Option Obj) (as : List Addr) : List Addr := as.flatMap fun a => match g a with
  | some o => He.refsD o
  | none => []
def asN2 (g : Addr → Option Obj) (a c : List Addr) : List Addr := mainGlobals :: (a ++ (rfs g a ++ (c ++ (rfs g c ++ (rfs g (rfs g c) ++ rfs g (rfs g (rfs g c)))))))
def asN (g : Addr → Option Obj) : List Addr := asN2 g (nmF.map (He.ga (He.frG g [mainGlobals]))) (nmC.map (He.ga (He.frG g [mainGlobals])))
def seenG (gt : Addr → Option Obj) : He.AlD × Bool := seen (He.frG gt (asN gt))
def hk : PySem.W.Hook where
  α := He.AlD × Bool
  obs := fun sh => seenG sh.heap.get?
  val := fun _ => (He.valD fn, true)
  says := fun _ hp => ∃ M : PySem.W.Frag, M.In hp ∧ seen M = (He.valD fn, true)
  of := fun _ _ eq => ⟨_, He.frG_in, eq⟩
  keeps := fun _ _ _ ⟨M, inM, eq⟩ kp => ⟨M, PySem.W.Frag.In.keeps inM kp, eq⟩
def ob (s : PySem.W.SharedT) : He.AlD × Bool := seenG (HandSHeadRun.getT s)
theorem ob_eq (s : PySem.W.SharedT) : ob s = hk.obs s.abs := by
  have eq : HandSHeadRun.getT s = s.abs.heap.get? := funext (HandSHeadRun.getT_eq s)
  unfold ob
  rw [eq]
  rfl
def loose : List PySem.Str := (["MirrorError", "NoGround", "NoRow", "NoTable", "NoForm", "NoWorth", "NoPlace", "NotKept", "Form", "Keeper", "GROUNDS", "MOST_LETTERS", "MOST_LETTERS_ON_A_WHEEL", "_wall", "is_whole", "common_divisor", "is_ground", "is_number", "is_nought_on", "lowest"] : List PySem.Str) ++ (["wheel_back", "plus", "less", "show_number", "is_row", "is_table", "through", "product", "product_row", "dot", "whole_row", "whole_table", "turned", "determinant", "whole_determinant", "smaller_row", "head_place", "table_of_ones", "least_rows", "least_wholes"] : List PySem.Str) ++ (["cleared", "plain", "headed", "row_plus", "row_less", "table_less", "show_row", "show_table", "is_form_table", "want_rows", "want_list_of_rows", "want_worths", "products", "worth_of", "row_of_worth", "first_changed", "differences", "mirror_marks", "mirror", "mirrors_table"] : List PySem.Str) ++ (["whole_mirrors", "mirrored", "exchanged", "_law_bag", "_law_take", "_law_mixed", "_law_shared", "_law_low", "_law_plus", "_law_times", "_law_minus", "_law_over", "_law_sum", "_law_scaled", "_law_added", "_law_through", "_law_product", "_law_turned", "_law_ones", "_law_pair"] : List PySem.Str) ++ (["_law_worth", "_law_mirror", "_law_made", "_law_ground", "_law_number", "_law_other_than_nought", "_law_row", "_law_letters", "_law_changed", "_law_form", "_law_with_worth", "_law_mirrors", "_law_is_exchanged"] : List PySem.Str)
theorem map_two {α β γ : Type} {o : Option α} {f : α → β} {g : α → γ} {b : β} {c : γ} (h1 : o.map f = some b) (h2 : o.map g = some c) : (o.map fun s => (f s, g s)) = some (b, c) := by
  cases o with
  | none => cases h1
  | some s => exact congrArg some (Prod.ext (Option.some.inj h1) (Option.some.inj h2))
/-! the run of the top, in three looks (one after another they take less memory) -/
open HandSHeadRun PySem.W in
theorem run1 (w : World) (os : OsState) : ((endF (stepQ (denQ tabQ) R.prog w) 8000 R.prog w os).map fun s => looksF R.prog (boot_heap w.params) s.abs) = some true := by
  kernel_rfl
open HandSHeadRun PySem.W in
theorem run2 (w : World) (os : OsState) : ((endF (stepQ (denQ tabQ) R.prog w) 8000 R.prog w os).map fun s => seenQ (PySem.W.view R.prog [101]) loose (importedModules R.prog.main.body) (fun s => xlAt (PySem.W.view R.prog [101]) [] s && recOk R.toRowW.records s) s.abs) = some (openGood (PySem.W.view R.prog [101]) loose) := by
  kernel_rfl
open HandSHeadRun PySem.W in
theorem run3 (w : World) (os : OsState) : ((endF (stepQ (denQ tabQ) R.prog w) 8000 R.prog w os).map ob) = some (hk.val w) := by
  kernel_rfl
theorem run (w : World) : HandSHeadRun.RunEq R (PySem.W.view R.prog [101]) hk ob 8000 loose w := fun os => map_two (run1 w os) (map_two (run2 w os) (run3 w os))
end Fm
namespace Fd
/-! ### sums over a range -/
def S (f : Nat → Int) : Nat → Int
  | 0 => 0
  | n + 1 => S f n + f n
theorem S_congr {f g : Nat → Int} : ∀ {n : Nat}, (∀ i, i < n → f i = g i) → S f n = S g n
  | 0, _ => rfl
  | n + 1, h => by
    show S f n + f n = S g n + g n
    rw [S_congr (n := n) fun i hi => h i (by omega), h n (by omega)]
theorem S_zero : ∀ (n : Nat), S (fun _ => 0) n = 0
  | 0 => rfl
  | n + 1 => by
    show S (fun _ => 0) n + 0 = 0
    rw [S_zero n]
    rfl
theorem S_add (f g : Nat → Int) : ∀ (n : Nat), S (fun i => f i + g i) n = S f n + S g n
  | 0 => rfl
  | n + 1 => by
    show S (fun i => f i + g i) n + (f n + g n) = S f n + f n + (S g n + g n)
    rw [S_add f g n]
    omega
theorem S_mul (c : Int) (f : Nat → Int) : ∀ (n : Nat), S (fun i => c * f i) n = c * S f n
  | 0 => (Int.mul_zero c).symm
  | n + 1 => by
    show S (fun i => c * f i) n + c * f n = c * (S f n + f n)
    rw [S_mul c f n, Int.mul_add]
theorem S_neg (f : Nat → Int) (n : Nat) : S (fun i => -f i) n = -S f n := by
  have h := S_mul (-1) f n
  rw [S_congr (g := fun i => -1 * f i) fun i _ => by omega, h]
  omega
theorem S_comm (f : Nat → Nat → Int) (m : Nat) : ∀ (n : Nat), S (fun i => S (fun j => f i j) m) n = S (fun j => S (fun i => f i j) n) m
  | 0 => (S_zero m).symm
  | n + 1 => by
    show S (fun i => S (fun j => f i j) m) n + S (fun j => f n j) m = S (fun j => S (fun i => f i j) n + f n j) m
    rw [S_comm f m n, ← S_add]
def skip (i j : Nat) : Nat := if j < i then j else j + 1
theorem S_skip (f : Nat → Int) (i : Nat) : ∀ (n : Nat), i ≤ n → S (fun j => f (skip i j)) n = S (fun k => if k = i then 0 else f k) (n + 1)
  | 0, h => by
    have e : i = 0 := by omega
    subst e
    rfl
  | n + 1, h => by
    by_cases hi : i = n + 1
    · subst hi
      show S (fun j => f (skip (n + 1) j)) (n + 1) = S (fun k => if k = n + 1 then 0 else f k) (n + 1) + (if n + 1 = n + 1 then 0 else f (n + 1))
      rw [if_pos rfl, Int.add_zero]
      refine S_congr fun j hj => ?_
      unfold skip
      rw [if_pos hj, if_neg (by omega)]
    · show S (fun j => f (skip i j)) n + f (skip i n) = S (fun k => if k = i then 0 else f k) (n + 1) + (if n + 1 = i then 0 else f (n + 1))
      rw [S_skip f i n (by omega), if_neg (by omega)]
      unfold skip
      rw [if_neg (by omega)]
/-! ### signs -/
def sg (i : Nat) : Int := if i % 2 = 0 then 1 else -1
theorem sg_succ (i : Nat) : sg (i + 1) = -sg i := by
  unfold sg
  split <;> split <;> omega
theorem sg_sq (i : Nat) : sg i * sg i = 1 := by
  unfold sg
  split <;> rfl
/-! ### determinants of some columns of rows of whole numbers -/
def ent (rows : List (List Int)) (i c : Nat) : Int := (rows.getD i []).getD c 0
def dt : List (List Int) → List Nat → Int
  | _, [] => 1
  | rows, c :: cs => S (fun i => sg i * ent rows i c * dt (rows.eraseIdx i) cs) rows.length
theorem ent_erase (rows : List (List Int)) (i j c : Nat) : ent (rows.eraseIdx i) j c = ent rows (skip i j) c := by
  have e : (rows.eraseIdx i).getD j [] = rows.getD (skip i j) [] := by
    rw [List.getD_eq_getElem?_getD, List.getD_eq_getElem?_getD, List.getElem?_eraseIdx]
    unfold skip
    split <;> rfl
  unfold ent
  rw [e]
def er2 (rows : List (List Int)) (i k : Nat) : List (List Int) := (rows.eraseIdx i).eraseIdx (if k < i then k else k - 1)
theorem er2_symm (rows : List (List Int)) {i k : Nat} (h : i ≠ k) : er2 rows i k = er2 rows k i := by
  unfold er2
  refine List.ext_getElem? fun n => ?_
  rcases Nat.lt_or_gt_of_ne h with hk | hk
  · rw [if_neg (by omega), if_pos hk, List.getElem?_eraseIdx, List.getElem?_eraseIdx, List.getElem?_eraseIdx, List.getElem?_eraseIdx, List.getElem?_eraseIdx, List.getElem?_eraseIdx]
    by_cases h1 : n < i
    · rw [if_pos (show n < k - 1 by omega), if_pos h1, if_pos h1, if_pos (show n < k by omega)]
    · by_cases h2 : n < k - 1
      · rw [if_pos h2, if_neg h1, if_neg h1, if_pos (show n + 1 < k by omega)]
      · rw [if_neg h2, if_neg (show ¬ n + 1 < i by omega), if_neg h1, if_neg (show ¬ n + 1 < k by omega)]
  · rw [if_pos hk, if_neg (by omega), List.getElem?_eraseIdx, List.getElem?_eraseIdx, List.getElem?_eraseIdx, List.getElem?_eraseIdx, List.getElem?_eraseIdx, List.getElem?_eraseIdx]
    by_cases h1 : n < k
    · rw [if_pos h1, if_pos (show n < i by omega), if_pos (show n < i - 1 by omega), if_pos h1]
    · by_cases h2 : n < i - 1
      · rw [if_neg h1, if_pos (show n + 1 < i by omega), if_pos h2, if_neg h1]
      · rw [if_neg h1, if_neg (show ¬ n + 1 < i by omega), if_neg h2, if_neg (show ¬ n + 1 < k by omega)]
/-- the sign of taking i and then k -/
def s2 (i k : Nat) : Int := if k < i then sg i * sg k else -(sg i * sg k)
theorem dt_two (rows : List (List Int)) (a b : Nat) (cs : List Nat) : dt rows (a :: b :: cs) = S (fun i => S (fun k => if k = i then 0 else s2 i k * ent rows i a * ent rows k b * dt (er2 rows i k) cs) rows.length) rows.length := by
  show S (fun i => sg i * ent rows i a * S (fun j => sg j * ent (rows.eraseIdx i) j b * dt ((rows.eraseIdx i).eraseIdx j) cs) (rows.eraseIdx i).length) rows.length = _
  refine S_congr fun i hi => ?_
  have hl : rows.length = (rows.eraseIdx i).length + 1 := by rw [List.length_eraseIdx_of_lt hi]; omega
  rw [← S_mul]
  have e := S_skip (fun k => s2 i k * ent rows i a * ent rows k b * dt (er2 rows i k) cs) i (rows.eraseIdx i).length (by omega)
  rw [← hl] at e
  rw [← e]
  refine S_congr fun j hj => ?_
  rw [ent_erase]
  have e1 : s2 i (skip i j) = sg i * sg j := by
    unfold s2 skip
    by_cases h : j < i
    · rw [if_pos h, if_pos h]
    · rw [if_neg h, if_neg (by omega), sg_succ, Int.mul_neg, Int.neg_neg]
  have e2 : er2 rows i (skip i j) = (rows.eraseIdx i).eraseIdx j := by
    unfold er2 skip
    by_cases h : j < i
    · rw [if_pos h, if_pos h]
    · rw [if_neg h, if_neg (by omega)]
      rfl
  rw [e1, e2]
  simp only [Int.mul_assoc, Int.mul_left_comm, Int.mul_comm]
theorem s2_anti {i k : Nat} (h : i ≠ k) : s2 i k = -s2 k i := by
  unfold s2
  rcases Nat.lt_or_gt_of_ne h with hk | hk
  · rw [if_neg (by omega), if_pos hk, Int.mul_comm]
  · rw [if_pos hk, if_neg (by omega), Int.neg_neg, Int.mul_comm]
/-- two columns exchanged -/
theorem dt_swap (rows : List (List Int)) (a b : Nat) (cs : List Nat) : dt rows (a :: b :: cs) = -dt rows (b :: a :: cs) := by
  rw [dt_two, dt_two rows b a, S_comm, ← S_neg]
  refine S_congr fun k hk => ?_
  rw [← S_neg]
  refine S_congr fun i hi => ?_
  by_cases h : k = i
  · subst h
    rw [if_pos rfl, if_pos rfl]
    rfl
  · rw [if_neg h, if_neg (fun z => h z.symm), s2_anti (fun z => h z.symm), er2_symm rows (fun z => h z.symm)]
    simp only [Int.neg_mul]
    grind
/-- a column twice -/
theorem dt_twice (c : Nat) : ∀ (cs : List Nat) (rows : List (List Int)), c ∈ cs → dt rows (c :: cs) = 0
  | [], _, h => nomatch h
  | a :: cs, rows, h => by
    by_cases e : c = a
    · subst e
      have := dt_swap rows c c cs
      omega
    · have hm : c ∈ cs := by
        rcases List.mem_cons.mp h with z | z
        · exact absurd z e
        · exact z
      rw [dt_swap]
      show -S (fun i => sg i * ent rows i a * dt (rows.eraseIdx i) (c :: cs)) rows.length = 0
      rw [S_congr (g := fun _ => 0) fun i _ => by rw [dt_twice c cs _ hm, Int.mul_zero], S_zero]
      rfl
/-- a sum that isn't nought has a part that isn't -/
theorem S_ne {f : Nat → Int} : ∀ {n : Nat}, S f n ≠ 0 → ∃ i, i < n ∧ f i ≠ 0
  | 0, h => absurd rfl h
  | n + 1, h => by
    by_cases e : f n = 0
    · have h' : S f n ≠ 0 := fun z => h (by show S f n + f n = 0; rw [z, e]; rfl)
      obtain ⟨i, hi, hf⟩ := S_ne h'
      exact ⟨i, by omega, hf⟩
    · exact ⟨n, by omega, e⟩
/-- rows whose determinant at some columns isn't nought: none of them is a sum of the others there -/
theorem indep : ∀ (cs : List Nat) (P : List (List Int)) (δ : Nat → Int), P.length = cs.length → dt P cs ≠ 0 → (∀ c ∈ cs, S (fun i => δ i * ent P i c) P.length = 0) → ∀ i, i < P.length → δ i = 0
  | [], P, δ, hl, _, _, i, hi => by
    rw [hl] at hi
    exact absurd hi (Nat.not_lt_zero _)
  | c :: cs, P, δ, hl, hD, hz, i, hi => by
    have hD' : S (fun i => sg i * ent P i c * dt (P.eraseIdx i) cs) P.length ≠ 0 := hD
    obtain ⟨i0, hi0, hne⟩ := S_ne hD'
    have hg0 : dt (P.eraseIdx i0) cs ≠ 0 := fun z => hne (by rw [z, Int.mul_zero])
    -- the cofactors
    have hcof : ∀ c' ∈ cs, S (fun i => sg i * dt (P.eraseIdx i) cs * ent P i c') P.length = 0 := fun c' hc' => by
      have h := dt_twice c' cs P hc'
      rw [← h]
      show _ = S (fun i => sg i * ent P i c' * dt (P.eraseIdx i) cs) P.length
      exact S_congr fun i _ => by rw [Int.mul_assoc, Int.mul_assoc, Int.mul_comm (dt _ _)]
    have γ0 : sg i0 * dt (P.eraseIdx i0) cs ≠ 0 := by
      refine Int.mul_ne_zero (fun z => ?_) hg0
      have := sg_sq i0
      rw [z] at this
      cases this
    have hl' : (P.eraseIdx i0).length + 1 = P.length := by rw [List.length_eraseIdx_of_lt hi0]; omega
    have step : ∀ k, k < P.length → sg i0 * dt (P.eraseIdx i0) cs * δ k - δ i0 * (sg k * dt (P.eraseIdx k) cs) = 0 := by
      have ih := indep cs (P.eraseIdx i0) (fun j => (fun k => sg i0 * dt (P.eraseIdx i0) cs * δ k - δ i0 * (sg k * dt (P.eraseIdx k) cs)) (skip i0 j)) (by
        have : P.length = cs.length + 1 := hl
        omega) hg0 (fun c' hc' => by
          have e1 := S_skip (fun k => (sg i0 * dt (P.eraseIdx i0) cs * δ k - δ i0 * (sg k * dt (P.eraseIdx k) cs)) * ent P k c') i0 (P.eraseIdx i0).length (by omega)
          rw [hl'] at e1
          have e2 : S (fun j => (fun k => sg i0 * dt (P.eraseIdx i0) cs * δ k - δ i0 * (sg k * dt (P.eraseIdx k) cs)) (skip i0 j) * ent (P.eraseIdx i0) j c') (P.eraseIdx i0).length = S (fun j => (fun k => (sg i0 * dt (P.eraseIdx i0) cs * δ k - δ i0 * (sg k * dt (P.eraseIdx k) cs)) * ent P k c') (skip i0 j)) (P.eraseIdx i0).length := S_congr fun j _ => by rw [ent_erase]
          rw [e2, e1]
          have e3 : S (fun k => if k = i0 then 0 else (sg i0 * dt (P.eraseIdx i0) cs * δ k - δ i0 * (sg k * dt (P.eraseIdx k) cs)) * ent P k c') P.length = S (fun k => sg i0 * dt (P.eraseIdx i0) cs * (δ k * ent P k c') + -δ i0 * (sg k * dt (P.eraseIdx k) cs * ent P k c')) P.length := S_congr fun k _ => by
            by_cases hk : k = i0
            · subst hk
              rw [if_pos rfl]
              grind
            · rw [if_neg hk]
              grind
          rw [e3, S_add, S_mul, S_mul, hz c' (List.mem_cons_of_mem _ hc'), hcof c' hc', Int.mul_zero, Int.mul_zero]
          rfl)
      intro k hk
      by_cases e : k = i0
      · subst e
        grind
      · by_cases h : k < i0
        · have := ih k (by omega)
          simp only [skip, if_pos h] at this
          exact this
        · have := ih (k - 1) (by omega)
          simp only [skip, if_neg (show ¬ k - 1 < i0 by omega), show k - 1 + 1 = k by omega] at this
          exact this
    have hd0 : δ i0 = 0 := by
      have h1 := hz c List.mem_cons_self
      have h2 : S (fun k => sg i0 * dt (P.eraseIdx i0) cs * (δ k * ent P k c)) P.length = S (fun k => δ i0 * (sg k * ent P k c * dt (P.eraseIdx k) cs)) P.length := S_congr fun k hk => by
        have := step k hk
        grind
      rw [S_mul, S_mul, h1, Int.mul_zero] at h2
      rcases Int.mul_eq_zero.mp h2.symm with z | z
      · exact z
      · exact absurd z hD'
    have := step i hi
    rw [hd0, Int.zero_mul, Int.sub_zero] at this
    rcases Int.mul_eq_zero.mp this with z | z
    · exact absurd z γ0
    · exact z
/-! ### sizes -/
theorem S_abs {f : Nat → Int} {B : Nat} : ∀ {n : Nat}, (∀ i, i < n → (f i).natAbs ≤ B) → (S f n).natAbs ≤ n * B
  | 0, _ => by
    show (0 : Int).natAbs ≤ 0 * B
    rw [Nat.zero_mul]
    exact Nat.le_refl _
  | n + 1, h => by
    have h1 := S_abs (n := n) fun i hi => h i (by omega)
    have h2 := h n (by omega)
    show (S f n + f n).natAbs ≤ (n + 1) * B
    rw [Nat.succ_mul]
    omega
theorem dt_abs {A : Nat} : ∀ (cs : List Nat) (P : List (List Int)), P.length = cs.length → (∀ i c, (ent P i c).natAbs ≤ A) → (dt P cs).natAbs ≤ (cs.length * A) ^ cs.length
  | [], P, _, _ => by
    show 1 ≤ (0 * A) ^ 0
    rw [Nat.pow_zero]
    exact Nat.le_refl _
  | c :: cs, P, hl, hA => by
    have hl' : P.length = cs.length + 1 := hl
    show (S (fun i => sg i * ent P i c * dt (P.eraseIdx i) cs) P.length).natAbs ≤ _
    have hb : ∀ i, i < P.length → (sg i * ent P i c * dt (P.eraseIdx i) cs).natAbs ≤ A * ((cs.length + 1) * A) ^ cs.length := fun i hi => by
      rw [Int.natAbs_mul, Int.natAbs_mul]
      have h1 : (sg i).natAbs = 1 := by
        unfold sg
        split <;> rfl
      have h2 := dt_abs (A := A) cs (P.eraseIdx i) (by rw [List.length_eraseIdx_of_lt hi]; omega) fun j c' => by rw [ent_erase]; exact hA _ _
      have h3 : (cs.length * A) ^ cs.length ≤ ((cs.length + 1) * A) ^ cs.length := Nat.pow_le_pow_left (Nat.mul_le_mul_right A (by omega)) _
      rw [h1, Nat.one_mul]
      exact Nat.mul_le_mul (hA i c) (Nat.le_trans h2 h3)
    refine Nat.le_trans (S_abs hb) ?_
    rw [hl']
    show (cs.length + 1) * (A * ((cs.length + 1) * A) ^ cs.length) ≤ ((cs.length + 1) * A) ^ (cs.length + 1)
    rw [Nat.pow_succ, ← Nat.mul_assoc, Nat.mul_comm]
    exact Nat.le_refl _
end Fd

namespace Fd
/-! ### rows cleared at columns: how great their numbers are -/
abbrev gt (r : List Int) (x : Nat) : Int := r.getD x 0
theorem S_front (f : Nat → Int) : ∀ (n : Nat), S f (n + 1) = f 0 + S (fun i => f (i + 1)) n
  | 0 => by
    show 0 + f 0 = f 0 + 0
    omega
  | n + 1 => by
    show S f (n + 1) + f (n + 1) = f 0 + (S (fun i => f (i + 1)) n + f (n + 1))
    rw [S_front f n]
    omega
theorem ent_zero (o : List Int) (P : List (List Int)) (x : Nat) : ent (o :: P) 0 x = gt o x := rfl
theorem ent_succ (o : List Int) (P : List (List Int)) (i x : Nat) : ent (o :: P) (i + 1) x = ent P i x := rfl
/-- a column moved to the front -/
theorem dt_move : ∀ (cs : List Nat) (P : List (List Int)) (j c : Nat), cs[j]? = some c → dt P (c :: cs.eraseIdx j) = sg j * dt P cs
  | [], _, _, _, h => by simp at h
  | a :: cs, P, 0, c, h => by
    have e : a = c := Option.some.inj h
    subst e
    show dt P (a :: cs) = 1 * dt P (a :: cs)
    omega
  | a :: cs, P, j + 1, c, h => by
    have h' : cs[j]? = some c := h
    show dt P (c :: a :: cs.eraseIdx j) = _
    rw [dt_swap]
    show -S (fun i => sg i * ent P i a * dt (P.eraseIdx i) (c :: cs.eraseIdx j)) P.length = sg (j + 1) * S (fun i => sg i * ent P i a * dt (P.eraseIdx i) cs) P.length
    rw [sg_succ, Int.neg_mul, ← S_mul]
    congr 1
    exact S_congr fun i _ => by rw [dt_move cs (P.eraseIdx i) j c h']; grind
/-- the bordered minors as a sum of the rows -/
theorem dt_front (o : List Int) (P : List (List Int)) (c : List Nat) (x : Nat) : dt (o :: P) (x :: c) = dt P c * gt o x + S (fun i => sg (i + 1) * dt ((o :: P).eraseIdx (i + 1)) c * ent P i x) P.length := by
  show S (fun i => sg i * ent (o :: P) i x * dt ((o :: P).eraseIdx i) c) (P.length + 1) = _
  rw [S_front]
  have e1 : sg 0 * ent (o :: P) 0 x * dt ((o :: P).eraseIdx 0) c = dt P c * gt o x := by
    show 1 * gt o x * dt P c = _
    rw [Int.one_mul, Int.mul_comm]
  rw [e1]
  congr 1
  exact S_congr fun i _ => by rw [ent_succ]; grind
theorem dt_rows (P : List (List Int)) (c : List Nat) (x : Nat) : dt P (x :: c) = S (fun i => sg i * dt (P.eraseIdx i) c * ent P i x) P.length := by
  show S (fun i => sg i * ent P i x * dt (P.eraseIdx i) c) P.length = _
  exact S_congr fun i _ => by grind
/-- a row out of o and P that is nought at the columns c -/
def NonP (P : List (List Int)) (c : List Nat) (o r : List Int) : Prop := ∃ (a b : Int) (β : Nat → Int), a ≠ 0 ∧ b ≠ 0 ∧ (∀ x, a * gt r x = b * gt o x + S (fun i => β i * ent P i x) P.length) ∧ ∀ k ∈ c, gt r k = 0
/-- a row out of P that is nought at the columns c but the one at j -/
def PivP (P : List (List Int)) (c : List Nat) (j : Nat) (r : List Int) : Prop := ∃ (a : Int) (β : Nat → Int), a ≠ 0 ∧ (∀ x, a * gt r x = S (fun i => β i * ent P i x) P.length) ∧ (∀ k ∈ c.eraseIdx j, gt r k = 0) ∧ ∃ k, c[j]? = some k ∧ gt r k ≠ 0
theorem S_lin (u v : Int) (f g : Nat → Int) (n : Nat) : S (fun i => u * f i - v * g i) n = u * S f n - v * S g n := by
  have e : S (fun i => u * f i - v * g i) n = S (fun i => u * f i + -v * g i) n := S_congr fun i _ => by grind
  rw [e, S_add, S_mul, S_mul]
  grind
theorem NonP.par {P : List (List Int)} {c : List Nat} {o r : List Int} (hl : P.length = c.length) (hD : dt P c ≠ 0) (h : NonP P c o r) : ∃ a b : Int, a ≠ 0 ∧ b ≠ 0 ∧ ∀ x, a * gt r x = b * dt (o :: P) (x :: c) := by
  obtain ⟨a, b, β, ha, hb, hx, hz⟩ := h
  refine ⟨dt P c * a, b, Int.mul_ne_zero hD ha, hb, ?_⟩
  have key : ∀ x, dt P c * a * gt r x - b * dt (o :: P) (x :: c) = S (fun i => (dt P c * β i - b * (sg (i + 1) * dt ((o :: P).eraseIdx (i + 1)) c)) * ent P i x) P.length := fun x => by
    have e : S (fun i => (dt P c * β i - b * (sg (i + 1) * dt ((o :: P).eraseIdx (i + 1)) c)) * ent P i x) P.length = S (fun i => dt P c * (β i * ent P i x) - b * (sg (i + 1) * dt ((o :: P).eraseIdx (i + 1)) c * ent P i x)) P.length := S_congr fun i _ => by grind
    rw [e, S_lin, dt_front, Int.mul_assoc, hx]
    grind
  have z := indep c P (fun i => dt P c * β i - b * (sg (i + 1) * dt ((o :: P).eraseIdx (i + 1)) c)) hl hD fun k hk => by
    rw [← key k, hz k hk, dt_twice k c (o :: P) hk]
    grind
  intro x
  have h2 := key x
  rw [S_congr (g := fun _ => 0) fun i hi => by rw [z i hi, Int.zero_mul], S_zero] at h2
  omega
theorem PivP.par {P : List (List Int)} {c : List Nat} {j : Nat} {r : List Int} (hl : P.length = c.length) (hD : dt P c ≠ 0) (h : PivP P c j r) : ∃ a b : Int, a ≠ 0 ∧ b ≠ 0 ∧ ∀ x, a * gt r x = b * dt P (x :: c.eraseIdx j) := by
  obtain ⟨a, β, ha, hx, hz, k, hk, hne⟩ := h
  have hw : dt P (k :: c.eraseIdx j) ≠ 0 := by
    rw [dt_move c P j k hk]
    refine Int.mul_ne_zero (fun z => ?_) hD
    have := sg_sq j
    rw [z] at this
    cases this
  refine ⟨dt P (k :: c.eraseIdx j) * a, a * gt r k, Int.mul_ne_zero hw ha, Int.mul_ne_zero ha hne, ?_⟩
  have key : ∀ x, dt P (k :: c.eraseIdx j) * a * gt r x - a * gt r k * dt P (x :: c.eraseIdx j) = S (fun i => (dt P (k :: c.eraseIdx j) * β i - a * gt r k * (sg i * dt (P.eraseIdx i) (c.eraseIdx j))) * ent P i x) P.length := fun x => by
    have e : S (fun i => (dt P (k :: c.eraseIdx j) * β i - a * gt r k * (sg i * dt (P.eraseIdx i) (c.eraseIdx j))) * ent P i x) P.length = S (fun i => dt P (k :: c.eraseIdx j) * (β i * ent P i x) - a * gt r k * (sg i * dt (P.eraseIdx i) (c.eraseIdx j) * ent P i x)) P.length := S_congr fun i _ => by grind
    rw [e, S_lin, ← dt_rows, ← hx]
    grind
  have z := indep c P (fun i => dt P (k :: c.eraseIdx j) * β i - a * gt r k * (sg i * dt (P.eraseIdx i) (c.eraseIdx j))) hl hD fun m hm => by
    rw [← key m]
    obtain ⟨i, hi⟩ := List.getElem?_of_mem hm
    by_cases e : i = j
    · subst e
      have : m = k := Option.some.inj (hi.symm.trans hk)
      subst this
      grind
    · have hm2 : m ∈ c.eraseIdx j := by
        refine List.mem_eraseIdx_iff_getElem?.mpr ⟨i, e, hi⟩
      rw [hz m hm2, dt_twice m (c.eraseIdx j) P hm2]
      grind
  intro x
  have h2 := key x
  rw [S_congr (g := fun _ => 0) fun i hi => by rw [z i hi, Int.zero_mul], S_zero] at h2
  omega
/-- no whole number but 1 and -1 divides all -/
def Prim (r : List Int) : Prop := ∀ d : Int, (∀ x, d ∣ gt r x) → d.natAbs = 1
theorem prim_le {r : List Int} {w : Nat → Int} {a b : Int} (hp : Prim r) (ha : a ≠ 0) (hb : b ≠ 0) (h : ∀ x, a * gt r x = b * w x) : ∀ x, (gt r x).natAbs ≤ (w x).natAbs := by
  have hg : (Int.gcd a b : Int) ≠ 0 := fun z => ha (Int.gcd_eq_zero_iff.mp (Int.ofNat_eq_zero.mp z)).1
  obtain ⟨a', ea⟩ : (Int.gcd a b : Int) ∣ a := Int.gcd_dvd_left ..
  obtain ⟨b', eb⟩ : (Int.gcd a b : Int) ∣ b := Int.gcd_dvd_right ..
  have hcop : Int.gcd a' b' = 1 := by
    have h1 : Int.gcd a b = Int.gcd a b * Int.gcd a' b' := by
      have h2 : Int.gcd ((Int.gcd a b : Int) * a') ((Int.gcd a b : Int) * b') = (Int.gcd a b : Int).natAbs * Int.gcd a' b' := Int.gcd_mul_left ..
      rw [← ea, ← eb, Int.natAbs_natCast] at h2
      exact h2
    have h3 : 0 < Int.gcd a b := Nat.pos_of_ne_zero fun z => hg (by omega)
    exact Nat.eq_of_mul_eq_mul_left h3 (by omega)
  have h' : ∀ x, a' * gt r x = b' * w x := fun x => by
    have : (Int.gcd a b : Int) * (a' * gt r x) = (Int.gcd a b : Int) * (b' * w x) := by
      rw [← Int.mul_assoc, ← Int.mul_assoc, ← ea, ← eb]
      exact h x
    exact Int.eq_of_mul_eq_mul_left hg this
  have hdiv : ∀ x, b' ∣ gt r x := fun x => Fm.dvd_cop hcop ⟨w x, h' x⟩
  have hb1 := hp b' hdiv
  have ha0 : a' ≠ 0 := fun z => ha (by rw [ea, z, Int.mul_zero])
  intro x
  have e := congrArg Int.natAbs (h' x)
  rw [Int.natAbs_mul, Int.natAbs_mul, hb1, Nat.one_mul] at e
  rw [← e]
  exact Nat.le_mul_of_pos_left _ (by omega)
theorem pow_mono {m n A : Nat} (h : m ≤ n) (hA : 1 ≤ n * A) : (m * A) ^ m ≤ (n * A) ^ n := Nat.le_trans (Nat.pow_le_pow_left (Nat.mul_le_mul_right A h) m) (Nat.pow_le_pow_right hA h)
/-- nought everywhere -/
def Nul (r : List Int) : Prop := ∀ x, gt r x = 0
/-- what is known of the rows: P the pivots' own rows, c their columns, the last one first; O the others' own rows -/
structure Sz (A n : Nat) (P O : List (List Int)) (c : List Nat) (rows : List (List Int)) : Prop where
  lc : P.length = c.length
  lr : P.length + O.length = rows.length
  det : dt P c ≠ 0
  bP : ∀ i x, (ent P i x).natAbs ≤ A
  bO : ∀ i x, (ent O i x).natAbs ≤ A
  piv : ∀ (i : Nat) (r : List Int), i < P.length → rows[i]? = some r → PivP P c (P.length - 1 - i) r
  non : ∀ (i : Nat) (o r : List Int), O[i]? = some o → rows[P.length + i]? = some r → NonP P c o r
  pri : ∀ r ∈ rows, Prim r ∨ Nul r
theorem Sz.bound {A n : Nat} {P O : List (List Int)} {c : List Nat} {rows : List (List Int)} (h : Sz A n P O c rows) {m : Nat} (hm : rows.length ≤ m) (hA : 1 ≤ A) : ∀ r ∈ rows, ∀ x, (gt r x).natAbs ≤ (m * A) ^ m := fun r hr x => by
  obtain ⟨i, hi⟩ := List.getElem?_of_mem hr
  have hlt := (List.getElem?_eq_some_iff.mp hi).1
  rcases h.pri r hr with hp | hz
  · by_cases hip : i < P.length
    · have hpv := h.piv i r hip hi
      obtain ⟨a, b, ha, hb, e⟩ := hpv.par h.lc h.det
      refine Nat.le_trans (prim_le hp ha hb e x) ?_
      obtain ⟨_, _, _, _, _, k, hk, _⟩ := hpv
      have hj := (List.getElem?_eq_some_iff.mp hk).1
      have hl : P.length = (x :: c.eraseIdx (P.length - 1 - i)).length := by
        rw [List.length_cons, List.length_eraseIdx_of_lt hj, h.lc]
        omega
      refine Nat.le_trans (dt_abs _ P hl h.bP) ?_
      rw [← hl]
      have := h.lr
      exact pow_mono (by omega) (Nat.mul_le_mul (show 1 ≤ m by omega) hA)
    · have hO : O[i - P.length]? = some (O[i - P.length]'(by have := h.lr; omega)) := List.getElem?_eq_getElem _
      have hnp := h.non (i - P.length) _ r hO (by rw [show P.length + (i - P.length) = i by omega]; exact hi)
      obtain ⟨a, b, ha, hb, e⟩ := hnp.par h.lc h.det
      refine Nat.le_trans (prim_le hp ha hb e x) ?_
      refine Nat.le_trans (dt_abs (A := A) _ _ (by rw [List.length_cons, List.length_cons, h.lc]) fun k y => ?_) ?_
      · cases k with
        | zero =>
          rw [ent_zero]
          have := h.bO (i - P.length) y
          have e3 : O.getD (i - P.length) [] = O[i - P.length]'(by have := h.lr; omega) := by rw [List.getD_eq_getElem?_getD, hO]; rfl
          unfold ent at this
          rw [e3] at this
          exact this
        | succ k =>
          rw [ent_succ]
          exact h.bP k y
      · rw [List.length_cons, ← h.lc]
        have := h.lr
        exact pow_mono (by omega) (Nat.mul_le_mul (show 1 ≤ m by omega) hA)
  · rw [hz x]
    exact Nat.zero_le _
/-- what clearing makes: r' times a number is r times h less head times r's own -/
def Clr (h ρ : Int) (head r r' : List Int) : Prop := ∃ s : Int, s ≠ 0 ∧ ∀ x, s * gt r' x = h * gt r x - ρ * gt head x
theorem NonP.head {P : List (List Int)} {c : List Nat} {o r : List Int} {at_ : Nat} (h : NonP P c o r) (hne : gt r at_ ≠ 0) : PivP (o :: P) (at_ :: c) 0 r := by
  obtain ⟨a, b, β, ha, hb, hx, hz⟩ := h
  refine ⟨a, fun i => match i with | 0 => b | i + 1 => β i, ha, fun x => ?_, hz, at_, rfl, hne⟩
  show _ = S _ (P.length + 1)
  rw [S_front, hx x]
  rfl
theorem NonP.clear {P : List (List Int)} {c : List Nat} {o oh r head r' : List Int} {at_ : Nat} (h : NonP P c o r) (hh : NonP P c oh head) (hne : gt head at_ ≠ 0) (hc : Clr (gt head at_) (gt r at_) head r r') : NonP (oh :: P) (at_ :: c) o r' := by
  obtain ⟨a, b, β, ha, hb, hx, hz⟩ := h
  obtain ⟨a', b', β', ha', hb', hx', hz'⟩ := hh
  obtain ⟨s, hs, e⟩ := hc
  have hmul : ∀ x, a * a' * s * gt r' x = a' * gt head at_ * (a * gt r x) - a * gt r at_ * (a' * gt head x) := fun x => by
    have := e x
    grind
  refine ⟨a * a' * s, a' * gt head at_ * b, fun i => match i with | 0 => -(a * gt r at_ * b') | i + 1 => a' * gt head at_ * β i - a * gt r at_ * β' i, Int.mul_ne_zero (Int.mul_ne_zero ha ha') hs, Int.mul_ne_zero (Int.mul_ne_zero ha' hne) hb, fun x => ?_, fun k hk => ?_⟩
  · rw [hmul x, hx x, hx' x]
    show _ = _ + S _ (P.length + 1)
    rw [S_front]
    have e2 : S (fun i => (a' * gt head at_ * β i - a * gt r at_ * β' i) * ent P i x) P.length = a' * gt head at_ * S (fun i => β i * ent P i x) P.length - a * gt r at_ * S (fun i => β' i * ent P i x) P.length := by
      rw [← S_lin]
      exact S_congr fun i _ => by grind
    show _ = _ + (-(a * gt r at_ * b') * gt oh x + S (fun i => (a' * gt head at_ * β i - a * gt r at_ * β' i) * ent P i x) P.length)
    rw [e2]
    grind
  · have h1 : s * gt r' k = 0 := by
      rw [e k]
      rcases List.mem_cons.mp hk with rfl | hk
      · grind
      · rw [hz k hk, hz' k hk]
        grind
    rcases Int.mul_eq_zero.mp h1 with z | z
    · exact absurd z hs
    · exact z
theorem PivP.clear {P : List (List Int)} {c : List Nat} {j : Nat} {oh r head r' : List Int} {at_ : Nat} (h : PivP P c j r) (hh : NonP P c oh head) (hne : gt head at_ ≠ 0) (hc : Clr (gt head at_) (gt r at_) head r r') : PivP (oh :: P) (at_ :: c) (j + 1) r' := by
  obtain ⟨a, β, ha, hx, hz, k, hk, hkn⟩ := h
  obtain ⟨a', b', β', ha', hb', hx', hz'⟩ := hh
  obtain ⟨s, hs, e⟩ := hc
  have hmul : ∀ x, a * a' * s * gt r' x = a' * gt head at_ * (a * gt r x) - a * gt r at_ * (a' * gt head x) := fun x => by
    have := e x
    grind
  refine ⟨a * a' * s, fun i => match i with | 0 => -(a * gt r at_ * b') | i + 1 => a' * gt head at_ * β i - a * gt r at_ * β' i, Int.mul_ne_zero (Int.mul_ne_zero ha ha') hs, fun x => ?_, fun m hm => ?_, k, hk, fun z => ?_⟩
  · rw [hmul x, hx x, hx' x]
    show _ = S _ (P.length + 1)
    rw [S_front]
    have e2 : S (fun i => (a' * gt head at_ * β i - a * gt r at_ * β' i) * ent P i x) P.length = a' * gt head at_ * S (fun i => β i * ent P i x) P.length - a * gt r at_ * S (fun i => β' i * ent P i x) P.length := by
      rw [← S_lin]
      exact S_congr fun i _ => by grind
    show _ = -(a * gt r at_ * b') * gt oh x + S (fun i => (a' * gt head at_ * β i - a * gt r at_ * β' i) * ent P i x) P.length
    rw [e2]
    grind
  · have hm' : m ∈ at_ :: c.eraseIdx j := hm
    have h1 : s * gt r' m = 0 := by
      rw [e m]
      rcases List.mem_cons.mp hm' with rfl | hk'
      · grind
      · rw [hz m hk', hz' m (List.mem_of_mem_eraseIdx hk')]
        grind
    rcases Int.mul_eq_zero.mp h1 with z | z
    · exact absurd z hs
    · exact z
  · have h2 := e k
    rw [z, hz' k (List.mem_of_getElem? hk), Int.mul_zero, Int.mul_zero, Int.sub_zero] at h2
    rcases Int.mul_eq_zero.mp h2.symm with y | y
    · exact hne y
    · exact hkn y
/-- the pivot's minor stays other than nought -/
theorem NonP.det {P : List (List Int)} {c : List Nat} {o r : List Int} {at_ : Nat} (hl : P.length = c.length) (hD : dt P c ≠ 0) (h : NonP P c o r) (hne : gt r at_ ≠ 0) : dt (o :: P) (at_ :: c) ≠ 0 := by
  obtain ⟨a, b, ha, hb, e⟩ := h.par hl hD
  intro z
  have := e at_
  rw [z, Int.mul_zero] at this
  rcases Int.mul_eq_zero.mp this with y | y
  · exact ha y
  · exact hne y
end Fd

namespace Fd
/-! ### minors bordered twice; what rows span is told by columns -/
/-- two sums of the rows that are the same at the columns are the same -/
theorem dt_ext {P : List (List Int)} {c : List Nat} (hl : P.length = c.length) (hD : dt P c ≠ 0) {f g : Nat → Int} (β γ : Nat → Int) (hf : ∀ x, f x = S (fun i => β i * ent P i x) P.length) (hg : ∀ x, g x = S (fun i => γ i * ent P i x) P.length) (he : ∀ k ∈ c, f k = g k) : ∀ x, f x = g x := by
  have key : ∀ x, f x - g x = S (fun i => (β i - γ i) * ent P i x) P.length := fun x => by
    have e : S (fun i => (β i - γ i) * ent P i x) P.length = S (fun i => 1 * (β i * ent P i x) - 1 * (γ i * ent P i x)) P.length := S_congr fun i _ => by grind
    rw [e, S_lin, hf, hg]
    omega
  have z := indep c P (fun i => β i - γ i) hl hD fun k hk => by
    rw [← key k, he k hk]
    omega
  intro x
  have h2 := key x
  rw [S_congr (g := fun _ => 0) fun i hi => by rw [z i hi, Int.zero_mul], S_zero] at h2
  omega
/-- a row and others, bordered by one row and column more -/
theorem dt_syl {P : List (List Int)} {c : List Nat} (hl : P.length = c.length) {o h : List Int} {k : Nat} (hD : dt (h :: P) (k :: c) ≠ 0) (x : Nat) :
    dt P c * dt (o :: h :: P) (x :: k :: c) = dt (o :: P) (x :: c) * dt (h :: P) (k :: c) - dt (o :: P) (k :: c) * dt (h :: P) (x :: c) := by
  have hl' : (h :: P).length = (k :: c).length := by rw [List.length_cons, List.length_cons, hl]
  have e1 : ∀ x, dt (o :: h :: P) (x :: k :: c) = dt (h :: P) (k :: c) * gt o x + S (fun i => sg (i + 1) * dt ((o :: h :: P).eraseIdx (i + 1)) (k :: c) * ent (h :: P) i x) (h :: P).length := fun x => dt_front o (h :: P) (k :: c) x
  have e2 : ∀ x, dt (o :: P) (x :: c) = dt P c * gt o x + S (fun i => sg (i + 1) * dt ((o :: P).eraseIdx (i + 1)) c * ent P i x) P.length := fun x => dt_front o P c x
  have e3 : ∀ x, dt (h :: P) (x :: c) = dt P c * gt h x + S (fun i => sg (i + 1) * dt ((h :: P).eraseIdx (i + 1)) c * ent P i x) P.length := fun x => dt_front h P c x
  have hh := dt_ext hl' hD (f := fun x => dt P c * dt (o :: h :: P) (x :: k :: c) - dt P c * dt (h :: P) (k :: c) * gt o x) (g := fun x => dt (o :: P) (x :: c) * dt (h :: P) (k :: c) - dt (o :: P) (k :: c) * dt (h :: P) (x :: c) - dt P c * dt (h :: P) (k :: c) * gt o x)
    (fun i => dt P c * (sg (i + 1) * dt ((o :: h :: P).eraseIdx (i + 1)) (k :: c)))
    (fun i => match i with | 0 => -(dt (o :: P) (k :: c) * dt P c) | i + 1 => dt (h :: P) (k :: c) * (sg (i + 1) * dt ((o :: P).eraseIdx (i + 1)) c) - dt (o :: P) (k :: c) * (sg (i + 1) * dt ((h :: P).eraseIdx (i + 1)) c))
    (fun x => by
      have e : S (fun i => dt P c * (sg (i + 1) * dt ((o :: h :: P).eraseIdx (i + 1)) (k :: c)) * ent (h :: P) i x) (h :: P).length = dt P c * S (fun i => sg (i + 1) * dt ((o :: h :: P).eraseIdx (i + 1)) (k :: c) * ent (h :: P) i x) (h :: P).length := by
        rw [← S_mul]
        exact S_congr fun i _ => by grind
      rw [e]
      have := e1 x
      grind)
    (fun x => by
      show _ = S _ (P.length + 1)
      rw [S_front]
      have e : S (fun i => (dt (h :: P) (k :: c) * (sg (i + 1) * dt ((o :: P).eraseIdx (i + 1)) c) - dt (o :: P) (k :: c) * (sg (i + 1) * dt ((h :: P).eraseIdx (i + 1)) c)) * ent P i x) P.length = dt (h :: P) (k :: c) * S (fun i => sg (i + 1) * dt ((o :: P).eraseIdx (i + 1)) c * ent P i x) P.length - dt (o :: P) (k :: c) * S (fun i => sg (i + 1) * dt ((h :: P).eraseIdx (i + 1)) c * ent P i x) P.length := by
        rw [← S_lin]
        exact S_congr fun i _ => by grind
      show _ = -(dt (o :: P) (k :: c) * dt P c) * gt h x + S (fun i => (dt (h :: P) (k :: c) * (sg (i + 1) * dt ((o :: P).eraseIdx (i + 1)) c) - dt (o :: P) (k :: c) * (sg (i + 1) * dt ((h :: P).eraseIdx (i + 1)) c)) * ent P i x) P.length
      rw [e]
      have h2 := e2 x
      have h3 := e3 x
      grind)
    (fun m hm => by
      have z1 : dt (o :: h :: P) (m :: k :: c) = 0 := dt_twice m (k :: c) _ hm
      show dt P c * dt (o :: h :: P) (m :: k :: c) - _ = _
      rw [z1]
      rcases List.mem_cons.mp hm with rfl | hm'
      · grind
      · rw [dt_twice m c (o :: P) hm', dt_twice m c (h :: P) hm']
        grind) x
  have hh' : dt P c * dt (o :: h :: P) (x :: k :: c) - dt P c * dt (h :: P) (k :: c) * gt o x = dt (o :: P) (x :: c) * dt (h :: P) (k :: c) - dt (o :: P) (k :: c) * dt (h :: P) (x :: c) - dt P c * dt (h :: P) (k :: c) * gt o x := hh
  omega
/-- the pivots' rows, with one row and column more -/
theorem dt_piv {P : List (List Int)} {c : List Nat} (hl : P.length = c.length) {h : List Int} {k j m : Nat} (hj : c[j]? = some m) (hD : dt (h :: P) (k :: c) ≠ 0) (x : Nat) :
    dt P c * dt (h :: P) (x :: k :: c.eraseIdx j) = -(dt P (x :: c.eraseIdx j) * dt (h :: P) (k :: c) - dt P (k :: c.eraseIdx j) * dt (h :: P) (x :: c)) := by
  have hl' : (h :: P).length = (k :: c).length := by rw [List.length_cons, List.length_cons, hl]
  have mv := dt_move c P j m hj
  have mvh := dt_move (k :: c) (h :: P) (j + 1) m hj
  have mvh' : dt (h :: P) (m :: k :: c.eraseIdx j) = sg (j + 1) * dt (h :: P) (k :: c) := mvh
  have e3 : ∀ x, dt (h :: P) (x :: c) = dt P c * gt h x + S (fun i => sg (i + 1) * dt ((h :: P).eraseIdx (i + 1)) c * ent P i x) P.length := fun x => dt_front h P c x
  refine dt_ext hl' hD (f := fun x => dt P c * dt (h :: P) (x :: k :: c.eraseIdx j)) (g := fun x => -(dt P (x :: c.eraseIdx j) * dt (h :: P) (k :: c) - dt P (k :: c.eraseIdx j) * dt (h :: P) (x :: c)))
    (fun i => dt P c * (sg i * dt ((h :: P).eraseIdx i) (k :: c.eraseIdx j)))
    (fun i => match i with | 0 => dt P (k :: c.eraseIdx j) * dt P c | i + 1 => -(dt (h :: P) (k :: c) * (sg i * dt (P.eraseIdx i) (c.eraseIdx j))) + dt P (k :: c.eraseIdx j) * (sg (i + 1) * dt ((h :: P).eraseIdx (i + 1)) c))
    (fun x => ?_) (fun x => ?_) (fun y hy => ?_) x
  · show dt P c * dt (h :: P) (x :: k :: c.eraseIdx j) = _
    rw [dt_rows (h :: P) (k :: c.eraseIdx j) x, ← S_mul]
    exact S_congr fun i _ => by grind
  · show _ = S _ (P.length + 1)
    rw [S_front]
    have e : S (fun i => (-(dt (h :: P) (k :: c) * (sg i * dt (P.eraseIdx i) (c.eraseIdx j))) + dt P (k :: c.eraseIdx j) * (sg (i + 1) * dt ((h :: P).eraseIdx (i + 1)) c)) * ent P i x) P.length = dt P (k :: c.eraseIdx j) * S (fun i => sg (i + 1) * dt ((h :: P).eraseIdx (i + 1)) c * ent P i x) P.length - dt (h :: P) (k :: c) * S (fun i => sg i * dt (P.eraseIdx i) (c.eraseIdx j) * ent P i x) P.length := by
      rw [← S_lin]
      exact S_congr fun i _ => by grind
    show _ = dt P (k :: c.eraseIdx j) * dt P c * gt h x + S (fun i => (-(dt (h :: P) (k :: c) * (sg i * dt (P.eraseIdx i) (c.eraseIdx j))) + dt P (k :: c.eraseIdx j) * (sg (i + 1) * dt ((h :: P).eraseIdx (i + 1)) c)) * ent P i x) P.length
    rw [e, ← dt_rows]
    have h3 := e3 x
    grind
  · show dt P c * dt (h :: P) (y :: k :: c.eraseIdx j) = -(dt P (y :: c.eraseIdx j) * dt (h :: P) (k :: c) - dt P (k :: c.eraseIdx j) * dt (h :: P) (y :: c))
    rcases List.mem_cons.mp hy with rfl | hy'
    · rw [dt_twice y (y :: c.eraseIdx j) (h :: P) List.mem_cons_self]
      grind
    · rw [dt_twice y c (h :: P) hy']
      obtain ⟨i, hi⟩ := List.getElem?_of_mem hy'
      by_cases e : i = j
      · subst e
        have : y = m := Option.some.inj (hi.symm.trans hj)
        subst this
        rw [mv, mvh', sg_succ]
        grind
      · have hm2 : y ∈ c.eraseIdx j := List.mem_eraseIdx_iff_getElem?.mpr ⟨i, e, hi⟩
        rw [dt_twice y (c.eraseIdx j) P hm2, dt_twice y (k :: c.eraseIdx j) (h :: P) (List.mem_cons_of_mem _ hm2)]
        grind
end Fd
namespace Fr
open Lean.Grind
variable {F : Type} [CommRing F]
/-! ### how many rows: none of rows that the others don't span more than rows that span them -/
theorem InS.mono {L M : List (Row F)} {v : Row F} (h : InS L v) (hs : ∀ r ∈ L, r ∈ M) : InS M v := h.trans fun r hr => InS.mem (hs r hr)
theorem InS.split {l : Row F} {L : List (Row F)} {v : Row F} (h : InS (l :: L) v) : ∃ (a : F) (u : Row F), InS L u ∧ v = fun j => a * l j + u j := by
  refine h (fun v => ∃ (a : F) (u : Row F), InS L u ∧ v = fun j => a * l j + u j) ⟨⟨0, fun _ => 0, (InS.spc L).zero, funext fun j => by grind⟩, fun u v hu hv => ?_, fun c u hu => ?_⟩ fun r hr => ?_
  · obtain ⟨a, u', h1, rfl⟩ := hu
    obtain ⟨b, v', h2, rfl⟩ := hv
    exact ⟨a + b, _, (InS.spc L).add _ _ h1 h2, funext fun j => by grind⟩
  · obtain ⟨a, u', h1, rfl⟩ := hu
    exact ⟨c * a, _, (InS.spc L).mul c _ h1, funext fun j => by grind⟩
  · rcases List.mem_cons.mp hr with rfl | hr
    · exact ⟨1, fun _ => 0, (InS.spc L).zero, funext fun j => by grind⟩
    · exact ⟨0, r, InS.mem hr, funext fun j => by grind⟩
/-- none is spanned by those behind it -/
def Ind : List (Row F) → Prop
  | [] => True
  | v :: M => ¬ InS M v ∧ Ind M
end Fr

namespace Fr
open Lean.Grind
variable {F : Type} [CommRing F]
/-! ### determinants in any ring: by the first column; as what is linear in each row and nought where two rows are the same -/
def SF (f : Nat → F) : Nat → F
  | 0 => 0
  | n + 1 => SF f n + f n
theorem SF_congr {f g : Nat → F} : ∀ {n : Nat}, (∀ i, i < n → f i = g i) → SF f n = SF g n
  | 0, _ => rfl
  | n + 1, h => by
    show SF f n + f n = SF g n + g n
    rw [SF_congr (n := n) fun i hi => h i (by omega), h n (by omega)]
theorem SF_zero : ∀ (n : Nat), SF (fun _ => (0 : F)) n = 0
  | 0 => rfl
  | n + 1 => by
    show SF (fun _ => (0 : F)) n + 0 = 0
    rw [SF_zero n]
    grind
theorem SF_nul {f : Nat → F} {n : Nat} (h : ∀ i, i < n → f i = 0) : SF f n = 0 := by rw [SF_congr h, SF_zero]
theorem SF_add (f g : Nat → F) : ∀ (n : Nat), SF (fun i => f i + g i) n = SF f n + SF g n
  | 0 => by
    show (0 : F) = 0 + 0
    grind
  | n + 1 => by
    show SF (fun i => f i + g i) n + (f n + g n) = SF f n + f n + (SF g n + g n)
    rw [SF_add f g n]
    grind
theorem SF_mul (c : F) (f : Nat → F) : ∀ (n : Nat), SF (fun i => c * f i) n = c * SF f n
  | 0 => by
    show (0 : F) = c * 0
    grind
  | n + 1 => by
    show SF (fun i => c * f i) n + c * f n = c * (SF f n + f n)
    rw [SF_mul c f n]
    grind
theorem SF_front (f : Nat → F) : ∀ (n : Nat), SF f (n + 1) = f 0 + SF (fun i => f (i + 1)) n
  | 0 => by
    show (0 : F) + f 0 = f 0 + 0
    grind
  | n + 1 => by
    show SF f (n + 1) + f (n + 1) = f 0 + (SF (fun i => f (i + 1)) n + f (n + 1))
    rw [SF_front f n]
    grind
theorem SF_split (f : Nat → F) (a : Nat) : ∀ (b : Nat), SF f (a + 1 + b) = SF f a + f a + SF (fun i => f (a + 1 + i)) b
  | 0 => by
    show SF f a + f a = SF f a + f a + 0
    grind
  | b + 1 => by
    show SF f (a + 1 + b) + f (a + 1 + b) = SF f a + f a + (SF (fun i => f (a + 1 + i)) b + f (a + 1 + b))
    rw [SF_split f a b]
    grind
def sF (k : Nat) : F := if k % 2 = 0 then 1 else -1
theorem sF_succ (k : Nat) : (sF (k + 1) : F) = -sF k := by
  unfold sF
  by_cases h : k % 2 = 0
  · rw [if_pos h, if_neg (by omega)]
  · rw [if_neg h, if_pos (by omega)]
    grind
theorem sF_sq (k : Nat) : (sF k * sF k : F) = 1 := by
  unfold sF
  split <;> grind
def zr : Row F := fun _ => 0
def dC : List (Row F) → List Nat → F
  | _, [] => 1
  | rows, c :: cs => SF (fun i => sF i * (rows.getD i zr) c * dC (rows.eraseIdx i) cs) rows.length
def dR : List (Row F) → List Nat → F
  | [], _ => 1
  | r :: rs, cs => SF (fun k => sF k * r (cs.getD k 0) * dR rs (cs.eraseIdx k)) cs.length
theorem dC_at (pre : List (Row F)) (u : Row F) (post : List (Row F)) (c : Nat) (cs : List Nat) : dC (pre ++ u :: post) (c :: cs) = SF (fun i => sF i * (pre.getD i zr) c * dC (pre.eraseIdx i ++ u :: post) cs) pre.length + sF pre.length * u c * dC (pre ++ post) cs + SF (fun j => sF (pre.length + 1 + j) * (post.getD j zr) c * dC (pre ++ u :: post.eraseIdx j) cs) post.length := by
  show SF (fun i => sF i * ((pre ++ u :: post).getD i zr) c * dC ((pre ++ u :: post).eraseIdx i) cs) (pre ++ u :: post).length = _
  rw [show (pre ++ u :: post).length = pre.length + 1 + post.length by rw [List.length_append, List.length_cons]; omega, SF_split]
  congr 1
  · congr 1
    · refine SF_congr fun i hi => ?_
      rw [List.eraseIdx_append_of_lt_length hi]
      congr 2
      rw [List.getD_eq_getElem?_getD, List.getD_eq_getElem?_getD, List.getElem?_append_left hi]
    · have e1 : (pre ++ u :: post).getD pre.length zr = u := by
        rw [List.getD_eq_getElem?_getD, List.getElem?_append_right (Nat.le_refl _), Nat.sub_self]
        rfl
      rw [e1, List.eraseIdx_append_of_length_le (Nat.le_refl _), Nat.sub_self]
      rfl
  · refine SF_congr fun j hj => ?_
    have e1 : (pre ++ u :: post).getD (pre.length + 1 + j) zr = post.getD j zr := by
      rw [List.getD_eq_getElem?_getD, List.getD_eq_getElem?_getD, List.getElem?_append_right (by omega), show pre.length + 1 + j - pre.length = j + 1 by omega]
      rfl
    rw [e1, List.eraseIdx_append_of_length_le (by omega), show pre.length + 1 + j - pre.length = j + 1 by omega]
    rfl
/-- linear in each of m rows; nought where two that stand beside each other are the same -/
structure Alt (m : Nat) (f : List (Row F) → F) : Prop where
  add : ∀ (pre : List (Row F)) (u v : Row F) (post : List (Row F)), pre.length + post.length + 1 = m → f (pre ++ (fun j => u j + v j) :: post) = f (pre ++ u :: post) + f (pre ++ v :: post)
  mul : ∀ (pre : List (Row F)) (c : F) (u : Row F) (post : List (Row F)), pre.length + post.length + 1 = m → f (pre ++ (fun j => c * u j) :: post) = c * f (pre ++ u :: post)
  alt : ∀ (pre : List (Row F)) (u : Row F) (post : List (Row F)), pre.length + post.length + 2 = m → f (pre ++ u :: u :: post) = 0
theorem dC_alt : ∀ (cs : List Nat), Alt cs.length (fun rows : List (Row F) => dC rows cs)
  | [] => ⟨fun _ _ _ _ h => by simp at h, fun _ _ _ _ h => by simp at h, fun _ _ _ h => by simp at h⟩
  | c :: cs => by
    have ih := dC_alt cs
    refine ⟨fun pre u v post h => ?_, fun pre k u post h => ?_, fun pre u post h => ?_⟩
    · rw [List.length_cons] at h
      show dC (pre ++ (fun j => u j + v j) :: post) (c :: cs) = dC (pre ++ u :: post) (c :: cs) + dC (pre ++ v :: post) (c :: cs)
      rw [dC_at, dC_at, dC_at]
      have e1 : SF (fun i => sF i * (pre.getD i zr) c * dC (pre.eraseIdx i ++ (fun j => u j + v j) :: post) cs) pre.length = SF (fun i => sF i * (pre.getD i zr) c * dC (pre.eraseIdx i ++ u :: post) cs) pre.length + SF (fun i => sF i * (pre.getD i zr) c * dC (pre.eraseIdx i ++ v :: post) cs) pre.length := by
        rw [← SF_add]
        refine SF_congr fun i hi => ?_
        have := ih.add (pre.eraseIdx i) u v post (by rw [List.length_eraseIdx_of_lt hi]; omega)
        rw [this]
        grind
      have e2 : SF (fun j => sF (pre.length + 1 + j) * (post.getD j zr) c * dC (pre ++ (fun j => u j + v j) :: post.eraseIdx j) cs) post.length = SF (fun j => sF (pre.length + 1 + j) * (post.getD j zr) c * dC (pre ++ u :: post.eraseIdx j) cs) post.length + SF (fun j => sF (pre.length + 1 + j) * (post.getD j zr) c * dC (pre ++ v :: post.eraseIdx j) cs) post.length := by
        rw [← SF_add]
        refine SF_congr fun i hi => ?_
        have := ih.add pre u v (post.eraseIdx i) (by rw [List.length_eraseIdx_of_lt hi]; omega)
        rw [this]
        grind
      rw [e1, e2]
      grind
    · rw [List.length_cons] at h
      show dC (pre ++ (fun j => k * u j) :: post) (c :: cs) = k * dC (pre ++ u :: post) (c :: cs)
      rw [dC_at, dC_at]
      have e1 : SF (fun i => sF i * (pre.getD i zr) c * dC (pre.eraseIdx i ++ (fun j => k * u j) :: post) cs) pre.length = k * SF (fun i => sF i * (pre.getD i zr) c * dC (pre.eraseIdx i ++ u :: post) cs) pre.length := by
        rw [← SF_mul]
        refine SF_congr fun i hi => ?_
        have := ih.mul (pre.eraseIdx i) k u post (by rw [List.length_eraseIdx_of_lt hi]; omega)
        rw [this]
        grind
      have e2 : SF (fun j => sF (pre.length + 1 + j) * (post.getD j zr) c * dC (pre ++ (fun j => k * u j) :: post.eraseIdx j) cs) post.length = k * SF (fun j => sF (pre.length + 1 + j) * (post.getD j zr) c * dC (pre ++ u :: post.eraseIdx j) cs) post.length := by
        rw [← SF_mul]
        refine SF_congr fun i hi => ?_
        have := ih.mul pre k u (post.eraseIdx i) (by rw [List.length_eraseIdx_of_lt hi]; omega)
        rw [this]
        grind
      rw [e1, e2]
      grind
    · rw [List.length_cons] at h
      show dC (pre ++ u :: u :: post) (c :: cs) = 0
      rw [dC_at, List.length_cons, SF_front]
      have e1 : SF (fun i => sF i * (pre.getD i zr) c * dC (pre.eraseIdx i ++ u :: u :: post) cs) pre.length = 0 := SF_nul fun i hi => by
        have := ih.alt (pre.eraseIdx i) u post (by rw [List.length_eraseIdx_of_lt hi]; omega)
        rw [this]
        grind
      have e2 : SF (fun i => sF (pre.length + 1 + (i + 1)) * ((u :: post).getD (i + 1) zr) c * dC (pre ++ u :: (u :: post).eraseIdx (i + 1)) cs) post.length = 0 := SF_nul fun i hi => by
        have := ih.alt pre u (post.eraseIdx i) (by rw [List.length_eraseIdx_of_lt hi]; omega)
        show sF (pre.length + 1 + (i + 1)) * (post.getD i zr) c * dC (pre ++ u :: u :: post.eraseIdx i) cs = 0
        rw [this]
        grind
      rw [e1, e2]
      show 0 + sF pre.length * u c * dC (pre ++ u :: post) cs + (sF (pre.length + 1) * u c * dC (pre ++ u :: post) cs + 0) = 0
      rw [sF_succ]
      grind
section
variable {m : Nat} {f : List (Row F) → F}
theorem Alt.zero (a : Alt m f) {pre post : List (Row F)} (h : pre.length + post.length + 1 = m) : f (pre ++ (fun _ => 0) :: post) = 0 := by
  have := a.mul pre 0 (fun _ => 0) post h
  have e : (fun j : Nat => (0 : F) * (fun _ : Nat => (0 : F)) j) = fun _ => 0 := funext fun j => by grind
  rw [e] at this
  rw [this]
  grind
theorem Alt.swap (a : Alt m f) {pre post : List (Row F)} {u v : Row F} (h : pre.length + post.length + 2 = m) : f (pre ++ u :: v :: post) = -f (pre ++ v :: u :: post) := by
  have h1 := a.alt pre (fun j => u j + v j) post h
  have h2 := a.add pre u v ((fun j => u j + v j) :: post) (by rw [List.length_cons]; omega)
  have h3 := a.add (pre ++ [u]) u v post (by rw [List.length_append]; show pre.length + 1 + post.length + 1 = m; omega)
  have h4 := a.add (pre ++ [v]) u v post (by rw [List.length_append]; show pre.length + 1 + post.length + 1 = m; omega)
  have h5 := a.alt pre u post h
  have h6 := a.alt pre v post h
  simp only [List.append_assoc, List.singleton_append] at h3 h4
  rw [h1, h3, h4, h5, h6] at h2
  grind
theorem Alt.move (a : Alt m f) {u : Row F} : ∀ (mid pre post : List (Row F)), pre.length + mid.length + post.length + 1 = m → f (pre ++ u :: (mid ++ post)) = sF mid.length * f (pre ++ mid ++ u :: post)
  | [], pre, post, _ => by
    show f (pre ++ u :: post) = 1 * f (pre ++ [] ++ u :: post)
    rw [List.append_nil]
    grind
  | v :: mid, pre, post, h => by
    rw [List.length_cons] at h
    have h1 := a.swap (pre := pre) (post := mid ++ post) (u := u) (v := v) (by rw [List.length_append]; omega)
    have h2 := Alt.move a mid (pre ++ [v]) post (by rw [List.length_append]; show pre.length + 1 + mid.length + post.length + 1 = m; omega) (u := u)
    simp only [List.append_assoc, List.singleton_append] at h2
    show f (pre ++ u :: v :: (mid ++ post)) = sF (mid.length + 1) * f (pre ++ v :: mid ++ u :: post)
    rw [h1, h2, sF_succ]
    simp only [List.append_assoc, List.cons_append]
    grind
/-- nought where a row stands twice -/
theorem Alt.twice (a : Alt m f) {u : Row F} (pre mid post : List (Row F)) (h : pre.length + mid.length + post.length + 2 = m) : f (pre ++ u :: (mid ++ u :: post)) = 0 := by
  rw [a.move mid pre (u :: post) (by rw [List.length_cons]; omega)]
  have := a.alt (pre ++ mid) u post (by rw [List.length_append]; omega)
  rw [this]
  grind
theorem Alt.clear1 (a : Alt m f) {u r : Row F} {k : F} {pre post : List (Row F)} (hu : u ∈ pre) (h : pre.length + post.length + 1 = m) : f (pre ++ (fun j => r j + k * u j) :: post) = f (pre ++ r :: post) := by
  rw [a.add pre r (fun j => k * u j) post h, a.mul pre k u post h]
  obtain ⟨p1, p2, rfl⟩ := List.append_of_mem hu
  rw [List.length_append, List.length_cons] at h
  have := a.twice (u := u) p1 p2 post (by omega)
  rw [show p1 ++ u :: p2 ++ u :: post = p1 ++ u :: (p2 ++ u :: post) by rw [List.append_assoc]; rfl, this]
  grind
theorem Alt.clear (a : Alt m f) {u : Row F} {k : Row F → F} : ∀ (rs pre : List (Row F)), u ∈ pre → pre.length + rs.length = m → f (pre ++ rs.map fun r j => r j + k r * u j) = f (pre ++ rs)
  | [], _, _, _ => rfl
  | r :: rs, pre, hu, h => by
    rw [List.length_cons] at h
    have h1 := a.clear1 (r := r) (k := k r) (pre := pre) (post := rs.map fun r j => r j + k r * u j) hu (by rw [List.length_map]; omega)
    have h2 := Alt.clear a (k := k) rs (pre ++ [r]) (List.mem_append_left _ hu) (by rw [List.length_append]; show pre.length + 1 + rs.length = m; omega)
    simp only [List.append_assoc, List.singleton_append] at h2
    show f (pre ++ (fun j => r j + k r * u j) :: rs.map fun r j => r j + k r * u j) = _
    rw [h1, h2]
theorem Alt.sum (a : Alt m f) {pre post : List (Row F)} (h : pre.length + post.length + 1 = m) (c : Nat → F) (U : Nat → Row F) : ∀ n, f (pre ++ (fun j => SF (fun k => c k * U k j) n) :: post) = SF (fun k => c k * f (pre ++ U k :: post)) n
  | 0 => a.zero h
  | n + 1 => by
    show f (pre ++ (fun j => SF (fun k => c k * U k j) n + c n * U n j) :: post) = SF (fun k => c k * f (pre ++ U k :: post)) n + c n * f (pre ++ U n :: post)
    rw [a.add pre (fun j => SF (fun k => c k * U k j) n) (fun j => c n * U n j) post h, a.mul pre (c n) (U n) post h, Alt.sum a h c U n]
theorem Alt.tail (a : Alt (m + 1) f) (u : Row F) : Alt m fun rows => f (u :: rows) :=
  ⟨fun pre v w post h => a.add (u :: pre) v w post (by rw [List.length_cons]; omega), fun pre c v post h => a.mul (u :: pre) c v post (by rw [List.length_cons]; omega), fun pre v post h => a.alt (u :: pre) v post (by rw [List.length_cons]; omega)⟩
end
def unit (c : Nat) : Row F := fun j => if j = c then 1 else 0
theorem by_units (r : Row F) (j : Nat) : ∀ (cs : List Nat), cs.Nodup → SF (fun k => r (cs.getD k 0) * unit (cs.getD k 0) j) cs.length = if j ∈ cs then r j else 0
  | [], _ => by
    rw [if_neg (by simp)]
    rfl
  | c :: cs, h => by
    rw [List.length_cons, SF_front]
    have hc := List.nodup_cons.mp h
    have ih := by_units r j cs hc.2
    show r c * unit c j + SF (fun k => r (cs.getD k 0) * unit (cs.getD k 0) j) cs.length = _
    rw [ih]
    unfold unit
    by_cases e : j = c
    · subst e
      rw [if_pos rfl, if_neg hc.1, if_pos List.mem_cons_self]
      grind
    · rw [if_neg e]
      by_cases hm : j ∈ cs
      · rw [if_pos hm, if_pos (List.mem_cons_of_mem _ hm)]
        grind
      · rw [if_neg hm, if_neg (fun z => (List.mem_cons.mp z).elim e hm)]
        grind
theorem dR_congr : ∀ (rs ss : List (Row F)) (cs : List Nat), rs.length = ss.length → (∀ (i : Nat) (r s : Row F), rs[i]? = some r → ss[i]? = some s → ∀ j ∈ cs, r j = s j) → dR rs cs = dR ss cs
  | [], [], _, _, _ => rfl
  | [], _ :: _, _, h, _ => by cases h
  | _ :: _, [], _, h, _ => by cases h
  | r :: rs, s :: ss, cs, h, he => by
    show SF _ cs.length = SF _ cs.length
    refine SF_congr fun k hk => ?_
    have hm : cs.getD k 0 ∈ cs := by
      rw [List.getD_eq_getElem?_getD, List.getElem?_eq_getElem hk]
      exact List.getElem_mem hk
    rw [he 0 r s rfl rfl _ hm, dR_congr rs ss (cs.eraseIdx k) (Nat.succ.inj h) fun i a b ha hb j hj => he (i + 1) a b ha hb j (List.mem_of_mem_eraseIdx hj)]
theorem erase_parts {α : Type} {cs : List α} {k : Nat} {d : α} (h : k < cs.length) : cs = cs.take k ++ cs.getD k d :: cs.drop (k + 1) ∧ cs.eraseIdx k = cs.take k ++ cs.drop (k + 1) := by
  refine ⟨?_, List.eraseIdx_eq_take_drop_succ ..⟩
  rw [List.getD_eq_getElem?_getD, List.getElem?_eq_getElem h]
  show cs = cs.take k ++ cs[k] :: cs.drop (k + 1)
  rw [← List.drop_eq_getElem_cons h, List.take_append_drop]
/-- what is linear so is the determinant times its worth at ones -/
theorem alt_det : ∀ (rs : List (Row F)) (cs : List Nat) (f : List (Row F) → F), Alt cs.length f → rs.length = cs.length → cs.Nodup → (∀ r ∈ rs, ∀ j, j ∉ cs → r j = 0) → f rs = dR rs cs * f (cs.map unit)
  | [], cs, f, a, hl, _, _ => by
    have : cs = [] := List.length_eq_zero_iff.mp hl.symm
    subst this
    show f [] = 1 * f []
    grind
  | r :: rs, cs, f, a, hl, hn, hs => by
    obtain ⟨m, hm⟩ : ∃ m, cs.length = m + 1 := ⟨rs.length, hl.symm⟩
    have hrs : rs.length = m := by rw [List.length_cons] at hl; omega
    rw [hm] at a
    have er : r = fun j => SF (fun k => r (cs.getD k 0) * unit (cs.getD k 0) j) cs.length := by
      funext j
      rw [by_units r j cs hn]
      by_cases h : j ∈ cs
      · rw [if_pos h]
      · rw [if_neg h]
        exact hs r List.mem_cons_self j h
    have h1 : f (r :: rs) = SF (fun k => r (cs.getD k 0) * f (unit (cs.getD k 0) :: rs)) cs.length := by
      have := a.sum (pre := []) (post := rs) (by rw [List.length_nil]; omega) (fun k => r (cs.getD k 0)) (fun k => unit (cs.getD k 0)) cs.length
      have e2 : f (r :: rs) = f ([] ++ (fun j => SF (fun k => r (cs.getD k 0) * unit (cs.getD k 0) j) cs.length) :: rs) := by
        rw [← er]
        rfl
      rw [e2, this]
      rfl
    rw [h1]
    show _ = SF (fun k => sF k * r (cs.getD k 0) * dR rs (cs.eraseIdx k)) cs.length * f (cs.map unit)
    have h2 : SF (fun k => sF k * r (cs.getD k 0) * dR rs (cs.eraseIdx k)) cs.length * f (cs.map unit) = SF (fun k => f (cs.map unit) * (sF k * r (cs.getD k 0) * dR rs (cs.eraseIdx k))) cs.length := by
      rw [SF_mul]
      grind
    rw [h2]
    refine SF_congr fun k hk => ?_
    obtain ⟨ep, ee⟩ := erase_parts (d := 0) hk
    generalize hck : cs.getD k 0 = ck at *
    have hnd : ck ∉ cs.eraseIdx k := by
      rw [ee]
      rw [ep] at hn
      have h3 := List.nodup_append.mp hn
      intro z
      rcases List.mem_append.mp z with z | z
      · exact h3.2.2 ck z ck List.mem_cons_self rfl
      · exact (List.nodup_cons.mp h3.2.1).1 z
    have hl2 : (cs.eraseIdx k).length = m := by rw [List.length_eraseIdx_of_lt hk]; omega
    -- the column cleared
    have h3 : f (unit ck :: rs) = f (unit ck :: rs.map fun r j => r j + -(r ck) * unit ck j) := by
      have := a.clear (u := unit ck) (k := fun r => -(r ck)) rs [unit ck] List.mem_cons_self (by show 1 + rs.length = m + 1; omega)
      exact this.symm
    have h4 := alt_det (rs.map fun r j => r j + -(r ck) * unit ck j) (cs.eraseIdx k) (fun rows => f (unit ck :: rows)) (by rw [hl2]; exact a.tail (unit ck)) (by rw [List.length_map, hl2, hrs]) (hn.sublist (List.eraseIdx_sublist ..)) (fun s hs' j hj => by
      obtain ⟨s0, h0, rfl⟩ := List.mem_map.mp hs'
      show s0 j + -(s0 ck) * unit ck j = 0
      unfold unit
      by_cases e : j = ck
      · subst e
        rw [if_pos rfl]
        grind
      · rw [if_neg e]
        have : j ∉ cs := fun z => by
          rw [ep] at z
          rw [ee] at hj
          rcases List.mem_append.mp z with z | z
          · exact hj (List.mem_append_left _ z)
          · rcases List.mem_cons.mp z with z | z
            · exact e z
            · exact hj (List.mem_append_right _ z)
        rw [hs s0 (List.mem_cons_of_mem _ h0) j this]
        grind)
    have h5 : dR (rs.map fun r j => r j + -(r ck) * unit ck j) (cs.eraseIdx k) = dR rs (cs.eraseIdx k) := dR_congr _ _ _ (by rw [List.length_map]) fun i x y hx hy j hj => by
      rw [List.getElem?_map, hy] at hx
      have ex : x = fun j => y j + -(y ck) * unit ck j := (Option.some.inj hx).symm
      rw [ex]
      show y j + -(y ck) * unit ck j = y j
      unfold unit
      rw [if_neg (fun z => hnd (by rw [← z]; exact hj))]
      grind
    have h6 : f (unit ck :: (cs.eraseIdx k).map unit) = sF k * f (cs.map unit) := by
      have := a.move (u := unit ck) ((cs.take k).map unit) [] ((cs.drop (k + 1)).map unit) (by rw [List.length_nil, List.length_map, List.length_map, List.length_take, List.length_drop]; omega)
      have e1 : (cs.eraseIdx k).map unit = (cs.take k).map unit ++ (cs.drop (k + 1)).map (unit (F := F)) := by rw [ee, List.map_append]
      have e2 : cs.map unit = [] ++ (cs.take k).map unit ++ unit ck :: (cs.drop (k + 1)).map (unit (F := F)) := by
        rw [List.nil_append]
        have : cs.map (unit (F := F)) = (cs.take k ++ ck :: cs.drop (k + 1)).map unit := by rw [← ep]
        rw [this, List.map_append]
        rfl
      rw [e1, e2]
      have e3 : ((cs.take k).map (unit (F := F))).length = k := by rw [List.length_map, List.length_take]; omega
      rw [e3] at this
      exact this
    have h4' : f (unit ck :: rs.map fun r j => r j + -(r ck) * unit ck j) = dR (rs.map fun r j => r j + -(r ck) * unit ck j) (cs.eraseIdx k) * f (unit ck :: (cs.eraseIdx k).map unit) := h4
    rw [h3, h4', h5, h6]
    grind
termination_by rs => rs.length
decreasing_by
  simp
theorem dC_units : ∀ (cs : List Nat), cs.Nodup → dC (cs.map (unit (F := F))) cs = 1
  | [], _ => rfl
  | c :: cs, h => by
    have hc := List.nodup_cons.mp h
    show SF (fun i => sF i * (((c :: cs).map (unit (F := F))).getD i zr) c * dC (((c :: cs).map (unit (F := F))).eraseIdx i) cs) ((c :: cs).map (unit (F := F))).length = 1
    rw [List.length_map, List.length_cons, SF_front]
    have e1 : SF (fun i => sF (i + 1) * (((c :: cs).map (unit (F := F))).getD (i + 1) zr) c * dC (((c :: cs).map (unit (F := F))).eraseIdx (i + 1)) cs) cs.length = 0 := SF_nul fun i hi => by
      have e2 : ((c :: cs).map (unit (F := F))).getD (i + 1) zr = unit cs[i] := by
        rw [List.getD_eq_getElem?_getD, List.getElem?_map, List.getElem?_cons_succ, List.getElem?_eq_getElem hi]
        rfl
      rw [e2]
      unfold unit
      rw [if_neg (fun z => hc.1 (by rw [z]; exact List.getElem_mem hi))]
      grind
    rw [e1]
    show sF 0 * unit c c * dC (cs.map unit) cs + 0 = 1
    rw [dC_units cs hc.2]
    unfold unit sF
    rw [if_pos rfl, if_pos rfl]
    grind
theorem dC_congr : ∀ (cs : List Nat) (rs ss : List (Row F)), rs.length = ss.length → (∀ (i : Nat) (r s : Row F), rs[i]? = some r → ss[i]? = some s → ∀ j ∈ cs, r j = s j) → dC rs cs = dC ss cs
  | [], _, _, _, _ => rfl
  | c :: cs, rs, ss, hl, h => by
    show SF _ rs.length = SF _ ss.length
    rw [← hl]
    refine SF_congr fun i hi => ?_
    have g1 : rs[i]? = some rs[i] := List.getElem?_eq_getElem hi
    have g2 : ss[i]? = some (ss[i]'(by omega)) := List.getElem?_eq_getElem _
    have e : (rs.getD i zr) c = (ss.getD i zr) c := by
      rw [List.getD_eq_getElem?_getD, List.getD_eq_getElem?_getD, g1, g2]
      exact h i _ _ g1 g2 c List.mem_cons_self
    rw [e, dC_congr cs (rs.eraseIdx i) (ss.eraseIdx i) (by rw [List.length_eraseIdx_of_lt hi, List.length_eraseIdx_of_lt (by omega), hl]) fun j r s hr hs x hx => by
      rw [List.getElem?_eraseIdx] at hr hs
      split at hr
      · rename_i hji
        rw [if_pos hji] at hs
        exact h j r s hr hs x (List.mem_cons_of_mem _ hx)
      · rename_i hji
        rw [if_neg hji] at hs
        exact h (j + 1) r s hr hs x (List.mem_cons_of_mem _ hx)]
/-- by the first column or by the first row -/
theorem dC_dR {rs : List (Row F)} {cs : List Nat} (hl : rs.length = cs.length) (hn : cs.Nodup) : dC rs cs = dR rs cs := by
  have key := alt_det (rs.map fun r j => if j ∈ cs then r j else 0) cs (fun rows => dC rows cs) (dC_alt cs) (by rw [List.length_map]; exact hl) hn (fun r hr j hj => by
    obtain ⟨s, _, rfl⟩ := List.mem_map.mp hr
    exact if_neg hj)
  have e1 : dC (rs.map fun r j => if j ∈ cs then r j else 0) cs = dC rs cs := dC_congr cs _ _ (by rw [List.length_map]) fun i x y hx hy j hj => by
    rw [List.getElem?_map, hy] at hx
    rw [← Option.some.inj hx]
    exact if_pos hj
  have e2 : dR (rs.map fun r j => if j ∈ cs then r j else 0) cs = dR rs cs := dR_congr _ _ cs (by rw [List.length_map]) fun i x y hx hy j hj => by
    rw [List.getElem?_map, hy] at hx
    rw [← Option.some.inj hx]
    exact if_pos hj
  rw [e1, e2, dC_units cs hn] at key
  rw [key]
  grind
/-- a row put through rows -/
def thr (B : List (Row F)) (r : Row F) : Row F := fun j => SF (fun i => r i * (B.getD i zr) j) B.length
/-- of a product the product -/
theorem dC_mul {A B : List (Row F)} {n : Nat} (hA : A.length = n) (hB : B.length = n) {cs : List Nat} (hc : cs.length = n) : dC (A.map (thr B)) cs = dC A (List.range n) * dC B cs := by
  have lin1 : ∀ u v : Row F, thr B (fun j => u j + v j) = fun j => thr B u j + thr B v j := fun u v => funext fun j => by
    show SF (fun i => (u i + v i) * (B.getD i zr) j) B.length = SF (fun i => u i * (B.getD i zr) j) B.length + SF (fun i => v i * (B.getD i zr) j) B.length
    rw [← SF_add]
    exact SF_congr fun i _ => by grind
  have lin2 : ∀ (c : F) (u : Row F), thr B (fun j => c * u j) = fun j => c * thr B u j := fun c u => funext fun j => by
    show SF (fun i => c * u i * (B.getD i zr) j) B.length = c * SF (fun i => u i * (B.getD i zr) j) B.length
    rw [← SF_mul]
    exact SF_congr fun i _ => by grind
  have a0 := dC_alt cs (F := F)
  rw [hc] at a0
  have a : Alt n fun rows => dC (rows.map (thr B)) cs := by
    refine ⟨fun pre u v post h => ?_, fun pre c u post h => ?_, fun pre u post h => ?_⟩
    · simp only [List.map_append, List.map_cons, lin1]
      exact a0.add _ _ _ _ (by rw [List.length_map, List.length_map]; exact h)
    · simp only [List.map_append, List.map_cons, lin2]
      exact a0.mul _ _ _ _ (by rw [List.length_map, List.length_map]; exact h)
    · simp only [List.map_append, List.map_cons]
      exact a0.alt _ _ _ (by rw [List.length_map, List.length_map]; exact h)
  have hnr : (List.range n).Nodup := List.nodup_range
  have hlr : (List.range n).length = n := List.length_range
  have key := alt_det (A.map fun r j => if j ∈ List.range n then r j else 0) (List.range n) (fun rows => dC (rows.map (thr B)) cs) (by rw [hlr]; exact a) (by rw [List.length_map, hlr]; exact hA) hnr (fun r hr j hj => by
    obtain ⟨s, _, rfl⟩ := List.mem_map.mp hr
    exact if_neg hj)
  have e1 : (A.map fun r j => if j ∈ List.range n then r j else 0).map (thr B) = A.map (thr B) := by
    rw [List.map_map]
    refine List.map_congr_left fun r _ => funext fun j => ?_
    show SF (fun i => (if i ∈ List.range n then r i else 0) * (B.getD i zr) j) B.length = SF (fun i => r i * (B.getD i zr) j) B.length
    exact SF_congr fun i hi => by rw [if_pos (List.mem_range.mpr (by omega))]
  have e2 : dR (A.map fun r j => if j ∈ List.range n then r j else 0) (List.range n) = dC A (List.range n) := by
    rw [dC_dR (by rw [hlr]; exact hA) hnr]
    exact dR_congr _ _ _ (by rw [List.length_map]) fun i x y hx hy j hj => by
      rw [List.getElem?_map, hy] at hx
      rw [← Option.some.inj hx]
      exact if_pos hj
  have e3 : ((List.range n).map (unit (F := F))).map (thr B) = B := by
    rw [List.map_map]
    refine List.ext_getElem? fun i => ?_
    rw [List.getElem?_map]
    by_cases hi : i < n
    · rw [List.getElem?_range hi, List.getElem?_eq_getElem (show i < B.length by omega)]
      show some (thr B (unit i)) = some B[i]
      congr 1
      funext j
      show SF (fun k => unit i k * (B.getD k zr) j) B.length = B[i] j
      have hs := SF_split (fun k => unit (F := F) i k * (B.getD k zr) j) i (B.length - i - 1)
      rw [show i + 1 + (B.length - i - 1) = B.length by omega] at hs
      rw [hs, SF_nul (f := fun k => unit i k * (B.getD k zr) j) (n := i) fun k hk => by
        show unit i k * _ = 0
        unfold unit
        rw [if_neg (by omega)]
        grind, SF_nul (f := fun k => unit i (i + 1 + k) * (B.getD (i + 1 + k) zr) j) fun k hk => by
        show unit i (i + 1 + k) * _ = 0
        unfold unit
        rw [if_neg (by omega)]
        grind]
      show 0 + unit i i * (B.getD i zr) j + 0 = _
      rw [List.getD_eq_getElem?_getD, List.getElem?_eq_getElem (show i < B.length by omega)]
      show 0 + unit i i * B[i] j + 0 = _
      unfold unit
      rw [if_pos rfl]
      grind
    · rw [List.getElem?_eq_none (by rw [hlr]; omega), List.getElem?_eq_none (by omega)]
      rfl
  rw [e1, e2, e3] at key
  exact key
/-- of the rows turned the same -/
theorem dR_turn : ∀ (rs : List (Row F)) (cs : List Nat) (ts : List (Row F)) (is : List Nat), ts.length = cs.length → is.length = rs.length → (∀ (i k a c : Nat) (r t : Row F), rs[i]? = some r → is[i]? = some a → cs[k]? = some c → ts[k]? = some t → r c = t a) → dR rs cs = dC ts is
  | [], cs, ts, is, _, hi, _ => by
    have : is = [] := List.length_eq_zero_iff.mp hi
    subst this
    rfl
  | r :: rs, cs, ts, [], _, hi, _ => by cases hi
  | r :: rs, cs, ts, a :: is, ht, hi, h => by
    show SF (fun k => sF k * r (cs.getD k 0) * dR rs (cs.eraseIdx k)) cs.length = SF (fun k => sF k * (ts.getD k zr) a * dC (ts.eraseIdx k) is) ts.length
    rw [ht]
    refine SF_congr fun k hk => ?_
    have g1 : cs[k]? = some cs[k] := List.getElem?_eq_getElem hk
    have g2 : ts[k]? = some (ts[k]'(by omega)) := List.getElem?_eq_getElem _
    have e1 : r (cs.getD k 0) = (ts.getD k zr) a := by
      rw [List.getD_eq_getElem?_getD, List.getD_eq_getElem?_getD, g1, g2]
      exact h 0 k a _ r _ rfl rfl g1 g2
    rw [e1, dR_turn rs (cs.eraseIdx k) (ts.eraseIdx k) is (by rw [List.length_eraseIdx_of_lt hk, List.length_eraseIdx_of_lt (by omega), ht]) (Nat.succ.inj hi) fun i l b c r' t' hr' hb hc ht' => by
      rw [List.getElem?_eraseIdx] at hc ht'
      split at hc
      · rename_i hlk
        rw [if_pos hlk] at ht'
        exact h (i + 1) l b c r' t' hr' hb hc ht'
      · rename_i hlk
        rw [if_neg hlk] at ht'
        exact h (i + 1) (l + 1) b c r' t' hr' hb hc ht']
end Fr

namespace Fm
open Lean.Grind PySem L2 Fr Fd
/-! ### least rows: the program's steps over whole numbers, in the field -/
def fr {g : Int} {F : Type} [CommRing F] (V : GV g F) (r : List Int) : Row F := fun j => V.i (gt r j)
def er {g : Int} {F : Type} [CommRing F] (V : GV g F) (r : List (Int × Int)) : Row F := fun j => V.e (r.getD j (0, 1))
/-- the greatest common divisor of all -/
def gcdL (r : List Int) : Int := r.foldl (fun s x => (Int.gcd s x : Int)) 0
def plainF (g : Int) (r : List Int) : List Int := if g ≠ 0 then r.map (fun x => x.fmod g) else if gcdL r = 0 then r else r.map (fun x => x.fdiv (gcdL r))
def clearF (g : Int) (at_ : Nat) (head row : List Int) : List Int := if gt row at_ = 0 then row else plainF g (List.zipWith (fun x y => x * gt head at_ - y * gt row at_) row head)
/-- whole numbers of the ground -/
def InG (g : Int) (r : List Int) : Prop := g ≠ 0 → ∀ x, 0 ≤ gt r x ∧ gt r x < g
theorem gcd_fold : ∀ (r : List Int) (s : Int), (r.foldl (fun s x => (Int.gcd s x : Int)) s ∣ s) ∧ (∀ x ∈ r, r.foldl (fun s x => (Int.gcd s x : Int)) s ∣ x) ∧ ∀ d, d ∣ s → (∀ x ∈ r, d ∣ x) → d ∣ r.foldl (fun s x => (Int.gcd s x : Int)) s
  | [], s => ⟨Int.dvd_refl s, fun x hx => (by cases hx), fun d h _ => h⟩
  | a :: r, s => by
    obtain ⟨h1, h2, h3⟩ := gcd_fold r (Int.gcd s a : Int)
    refine ⟨Int.dvd_trans h1 (Int.gcd_dvd_left ..), fun x hx => ?_, fun d hd hx => h3 d (Int.dvd_coe_gcd hd (hx a (List.mem_cons_self ..))) fun x m => hx x (List.mem_cons_of_mem _ m)⟩
    rcases List.mem_cons.mp hx with rfl | m
    · exact Int.dvd_trans h1 (Int.gcd_dvd_right ..)
    · exact h2 x m
theorem gcdL_dvd {r : List Int} : (∀ x ∈ r, gcdL r ∣ x) ∧ ∀ d, (∀ x ∈ r, d ∣ x) → d ∣ gcdL r := ⟨(gcd_fold r 0).2.1, fun d h => (gcd_fold r 0).2.2 d (Int.dvd_zero d) h⟩
theorem gt_map {f : Int → Int} {r : List Int} (h0 : f 0 = 0) (x : Nat) : gt (r.map f) x = f (gt r x) := by
  unfold gt
  rw [List.getD_eq_getElem?_getD, List.getD_eq_getElem?_getD, List.getElem?_map]
  cases r[x]? with
  | none => exact h0.symm
  | some y => rfl
theorem gt_mem {r : List Int} {x : Nat} (h : gt r x ≠ 0) : gt r x ∈ r := by
  unfold gt at h ⊢
  rw [List.getD_eq_getElem?_getD] at h ⊢
  cases e : r[x]? with
  | none => rw [e] at h; exact absurd rfl h
  | some y => exact List.mem_of_getElem? e
theorem dvd_gt {r : List Int} {d : Int} (h : ∀ x ∈ r, d ∣ x) (x : Nat) : d ∣ gt r x := by
  by_cases e : gt r x = 0
  · rw [e]; exact Int.dvd_zero d
  · exact h _ (gt_mem e)
theorem gcd0_nul {r : List Int} (h : gcdL r = 0) : Nul r := fun x => by
  have := dvd_gt gcdL_dvd.1 x (r := r)
  rw [h] at this
  exact Int.zero_dvd.mp this
/-- a plain row is the row over a number -/
theorem plain_zero {r : List Int} : ∃ s : Int, s ≠ 0 ∧ (∀ x, s * gt (plainF 0 r) x = gt r x) ∧ (Prim (plainF 0 r) ∨ Nul (plainF 0 r)) := by
  unfold plainF
  rw [if_neg (by decide)]
  by_cases h : gcdL r = 0
  · rw [if_pos h]
    exact ⟨1, by decide, fun x => Int.one_mul _, .inr (gcd0_nul h)⟩
  · rw [if_neg h]
    have e : ∀ x, gcdL r * gt (r.map fun x => x.fdiv (gcdL r)) x = gt r x := fun x => by
      rw [gt_map (by rw [Int.zero_fdiv])]
      obtain ⟨q, hq⟩ := dvd_gt gcdL_dvd.1 x (r := r)
      rw [hq, Int.mul_fdiv_cancel_left _ h]
    refine ⟨gcdL r, h, e, .inl fun d hd => ?_⟩
    have h1 : gcdL r * d ∣ gcdL r := gcdL_dvd.2 _ fun x hx => by
      obtain ⟨i, hi, rfl⟩ := List.mem_iff_getElem.mp hx
      have h2 := e i
      have h3 : gt r i = r[i] := by unfold gt; rw [List.getD_eq_getElem?_getD, List.getElem?_eq_getElem hi]; rfl
      rw [h3] at h2
      rw [← h2]
      exact Int.mul_dvd_mul_left _ (hd i)
    obtain ⟨q, hq⟩ := h1
    have h4 : 1 = d * q := by
      have : gcdL r * 1 = gcdL r * (d * q) := by rw [Int.mul_one, ← Int.mul_assoc]; exact hq
      exact Int.eq_of_mul_eq_mul_left h this
    have h5 := congrArg Int.natAbs h4
    rw [Int.natAbs_mul] at h5
    exact Nat.dvd_one.mp ⟨q.natAbs, h5⟩
theorem gt_zip {r h : List Int} (hl : r.length = h.length) (a b : Int) (x : Nat) : gt (List.zipWith (fun x y => x * a - y * b) r h) x = gt r x * a - gt h x * b := by
  unfold gt
  rw [List.getD_eq_getElem?_getD, List.getD_eq_getElem?_getD, List.getD_eq_getElem?_getD, List.getElem?_zipWith]
  by_cases hx : x < r.length
  · rw [List.getElem?_eq_getElem hx, List.getElem?_eq_getElem (by omega)]
    rfl
  · rw [List.getElem?_eq_none (by omega), List.getElem?_eq_none (by omega)]
    show (0 : Int) = 0 * a - 0 * b
    omega
/-- clearing, for the fractions -/
theorem clear_zero {at_ : Nat} {head r : List Int} (hl : r.length = head.length) (hne : gt head at_ ≠ 0) (hp : Prim r ∨ Nul r) : Clr (gt head at_) (gt r at_) head r (clearF 0 at_ head r) ∧ (Prim (clearF 0 at_ head r) ∨ Nul (clearF 0 at_ head r)) := by
  unfold clearF
  by_cases h : gt r at_ = 0
  · rw [if_pos h]
    refine ⟨⟨gt head at_, hne, fun x => ?_⟩, hp⟩
    rw [h]
    omega
  · rw [if_neg h]
    obtain ⟨s, hs, e, hpr⟩ := plain_zero (r := List.zipWith (fun x y => x * gt head at_ - y * gt r at_) r head)
    refine ⟨⟨s, hs, fun x => ?_⟩, hpr⟩
    rw [e x, gt_zip hl]
    grind
theorem plain_len (g : Int) (r : List Int) : (plainF g r).length = r.length := by
  unfold plainF
  split
  · rw [List.length_map]
  · split
    · rfl
    · rw [List.length_map]
theorem clear_len {g : Int} {at_ : Nat} {head r : List Int} (hl : r.length = head.length) : (clearF g at_ head r).length = r.length := by
  unfold clearF
  split
  · rfl
  · rw [plain_len, List.length_zipWith]
    omega
section
variable {g : Int} {F : Type} [CommRing F] (V : GV g F)
theorem GV.imod (hg : g ≠ 0) (x : Int) : V.i (x.fmod g) = V.i x := by
  have e : x = g * x.fdiv g + x.fmod g := (Int.mul_fdiv_add_fmod x g).symm
  have h := V.iadd (g * x.fdiv g) (x.fmod g)
  rw [← e, V.imul, V.gz hg] at h
  grind
theorem GV.iz {r : List Int} (hr : InG g r) {x : Nat} (h : V.i (gt r x) = 0) : gt r x = 0 := by
  by_cases hg : g = 0
  · exact (V.ker _ h).1 hg
  · have h1 := (V.ker _ h).2 hg
    obtain ⟨h2, h3⟩ := hr hg x
    rw [fmod_pos _ (by omega), Int.emod_eq_of_lt h2 h3] at h1
    exact h1
theorem plain_ing (hg : g = 0 ∨ Gr5 g) (r : List Int) : InG g (plainF g r) := fun z x => by
  have g0 : 0 < g := by
    have h5 := hg.resolve_left z
    unfold Gr5 at h5
    omega
  unfold plainF
  rw [if_pos z, gt_map (Int.zero_fmod g), fmod_pos _ g0]
  exact ⟨Int.emod_nonneg _ (by omega), Int.emod_lt_of_pos _ g0⟩
/-- a plain row, in the field -/
theorem GV.plain (r : List Int) : ∃ s : F, s ≠ 0 ∧ ∀ x, s * V.i (gt (plainF g r) x) = V.i (gt r x) := by
  by_cases hg : g = 0
  · subst hg
    obtain ⟨s, hs, e, _⟩ := plain_zero (r := r)
    refine ⟨V.i s, V.ine hs fun z => absurd rfl z, fun x => ?_⟩
    rw [← V.imul, e x]
  · refine ⟨1, V.ne, fun x => ?_⟩
    unfold plainF
    rw [if_pos hg, gt_map (Int.zero_fmod g), V.imod hg]
    grind
theorem GV.clear {at_ : Nat} {head r : List Int} (hh : InG g head) (hl : r.length = head.length) (hne : gt head at_ ≠ 0) : ∃ s : F, s ≠ 0 ∧ ∀ x, s * V.i (gt (clearF g at_ head r) x) = V.i (gt head at_) * V.i (gt r x) - V.i (gt r at_) * V.i (gt head x) := by
  unfold clearF
  by_cases h : gt r at_ = 0
  · rw [if_pos h]
    refine ⟨V.i (gt head at_), fun z => hne (V.iz hh z), fun x => ?_⟩
    rw [h, V.i0]
    grind
  · rw [if_neg h]
    obtain ⟨s, hs, e⟩ := V.plain (List.zipWith (fun x y => x * gt head at_ - y * gt r at_) r head)
    refine ⟨s, hs, fun x => ?_⟩
    rw [e x, gt_zip hl, V.isub, V.imul, V.imul]
    grind
theorem clear_ing (hg : g = 0 ∨ Gr5 g) {at_ : Nat} {head r : List Int} (hr : InG g r) : InG g (clearF g at_ head r) := by
  unfold clearF
  split
  · exact hr
  · exact plain_ing hg _
/-- the loop's state behind the columns ahead of at_: h the heads -/
structure Fst (at_ n : Nat) (orig rows : List (List Int)) (h : List Nat) : Prop where
  lr : h.length ≤ rows.length
  hd : ∀ p ∈ h, p < at_
  piv : ∃ A, Rr A h ∧ ∀ (i : Nat) (a : Row F) (r : List Int) (p : Nat), A[i]? = some a → rows[i]? = some r → h[i]? = some p → V.i (gt r p) ≠ 0 ∧ ∀ j, V.i (gt r j) = V.i (gt r p) * a j
  non : ∀ (i : Nat) (r : List Int), h.length ≤ i → rows[i]? = some r → ∀ j, j < at_ → V.i (gt r j) = 0
  sp1 : ∀ r ∈ rows, InS (orig.map (fr V)) (fr V r)
  sp2 : ∀ r ∈ orig, InS (rows.map (fr V)) (fr V r)
  ing : ∀ r ∈ rows, InG g r
  len : ∀ r ∈ rows, r.length = n
theorem rr_nil : Rr ([] : List (Row F)) [] := ⟨rfl, fun i k p q h => by simp at h, fun i a p h => by simp at h, fun i k a p h => by simp at h, fun i a p j h => by simp at h⟩
theorem Fst.start {n : Nat} {rows : List (List Int)} (hi : ∀ r ∈ rows, InG g r) (hl : ∀ r ∈ rows, r.length = n) : Fst V 0 n rows rows [] :=
  ⟨Nat.zero_le _, fun p hp => (by cases hp), ⟨[], rr_nil, fun i a r p h => by simp at h⟩, fun i r _ _ j hj => absurd hj (Nat.not_lt_zero _), fun r hr => InS.mem (List.mem_map.mpr ⟨r, hr, rfl⟩), fun r hr => InS.mem (List.mem_map.mpr ⟨r, hr, rfl⟩), hi, hl⟩
variable {V}
/-- a column without a head -/
theorem Fst.skip {at_ n : Nat} {orig rows : List (List Int)} {h : List Nat} (f : Fst V at_ n orig rows h) (hz : ∀ (i : Nat) (r : List Int), h.length ≤ i → rows[i]? = some r → gt r at_ = 0) : Fst V (at_ + 1) n orig rows h :=
  ⟨f.lr, fun p hp => Nat.lt_succ_of_lt (f.hd p hp), f.piv, fun i r hi hr j hj => by
    by_cases e : j = at_
    · rw [e, hz i r hi hr, V.i0]
    · exact f.non i r hi hr j (by omega), f.sp1, f.sp2, f.ing, f.len⟩
/-- the rows behind a column with its head at place -/
def stepF (g : Int) (at_ many place : Nat) (head : List Int) (rows : List (List Int)) : List (List Int) :=
  ((rows.eraseIdx place).map (clearF g at_ head)).take many ++ [head] ++ ((rows.eraseIdx place).map (clearF g at_ head)).drop many
theorem step_len {at_ many place : Nat} {head : List Int} {rows : List (List Int)} (hp : place < rows.length) (hm : many ≤ place) : (stepF g at_ many place head rows).length = rows.length := by
  unfold stepF
  rw [List.length_append, List.length_append, List.length_take, List.length_drop, List.length_map, List.length_eraseIdx_of_lt hp]
  show min many (rows.length - 1) + 1 + (rows.length - 1 - many) = _
  omega
theorem step_piv {at_ many place i : Nat} {head r' : List Int} {rows : List (List Int)} (hp : place < rows.length) (hm : many ≤ place) (hi : i < many) (e : (stepF g at_ many place head rows)[i]? = some r') : ∃ r, rows[i]? = some r ∧ r' = clearF g at_ head r := by
  unfold stepF at e
  have l1 : i < (((rows.eraseIdx place).map (clearF g at_ head)).take many).length := by
    rw [List.length_take, List.length_map, List.length_eraseIdx_of_lt hp]
    omega
  rw [List.append_assoc, List.getElem?_append_left l1, List.getElem?_take, if_pos hi, List.getElem?_map, List.getElem?_eraseIdx, if_pos (by omega)] at e
  cases er : rows[i]? with
  | none => rw [er] at e; cases e
  | some r =>
    rw [er] at e
    exact ⟨r, rfl, (Option.some.inj e).symm⟩
theorem step_mid {at_ many place : Nat} {head : List Int} {rows : List (List Int)} (hp : place < rows.length) (hm : many ≤ place) : (stepF g at_ many place head rows)[many]? = some head := by
  unfold stepF
  have l1 : (((rows.eraseIdx place).map (clearF g at_ head)).take many).length = many := by
    rw [List.length_take, List.length_map, List.length_eraseIdx_of_lt hp]
    omega
  rw [List.append_assoc, List.getElem?_append_right (by omega), l1, Nat.sub_self]
  rfl
theorem step_non {at_ many place i : Nat} {head r' : List Int} {rows : List (List Int)} (hp : place < rows.length) (hm : many ≤ place) (hi : many < i) (e : (stepF g at_ many place head rows)[i]? = some r') : ∃ r, rows[skip place (i - 1)]? = some r ∧ r' = clearF g at_ head r := by
  unfold stepF at e
  have l1 : (((rows.eraseIdx place).map (clearF g at_ head)).take many).length = many := by
    rw [List.length_take, List.length_map, List.length_eraseIdx_of_lt hp]
    omega
  rw [List.append_assoc, List.getElem?_append_right (by omega), l1, List.getElem?_append_right (by show 1 ≤ _; omega)] at e
  rw [List.getElem?_drop, List.getElem?_map, List.getElem?_eraseIdx, show many + (i - many - [head].length) = i - 1 by show many + (i - many - 1) = i - 1; omega] at e
  have e2 : (if i - 1 < place then rows[i - 1]? else rows[i - 1 + 1]?) = rows[skip place (i - 1)]? := by
    unfold skip
    split <;> rfl
  rw [e2] at e
  cases er : rows[skip place (i - 1)]? with
  | none => rw [er] at e; cases e
  | some r =>
    rw [er] at e
    exact ⟨r, rfl, (Option.some.inj e).symm⟩
/-- every row but the head is there, cleared -/
theorem step_all {at_ many place k : Nat} {head r : List Int} {rows : List (List Int)} (hp : place < rows.length) (hm : many ≤ place) (hk : k ≠ place) (e : rows[k]? = some r) : clearF g at_ head r ∈ stepF g at_ many place head rows := by
  have h1 : clearF g at_ head r ∈ (rows.eraseIdx place).map (clearF g at_ head) := List.mem_map.mpr ⟨r, List.mem_eraseIdx_iff_getElem?.mpr ⟨k, hk, e⟩, rfl⟩
  unfold stepF
  rw [← List.take_append_drop many ((rows.eraseIdx place).map (clearF g at_ head))] at h1
  rcases List.mem_append.mp h1 with h | h
  · exact List.mem_append_left _ (List.mem_append_left _ h)
  · exact List.mem_append_right _ h
theorem step_mem {at_ many place : Nat} {head r' : List Int} {rows : List (List Int)} (h : r' ∈ stepF g at_ many place head rows) : r' = head ∨ ∃ r ∈ rows, r' = clearF g at_ head r := by
  unfold stepF at h
  rcases List.mem_append.mp h with h | h
  · rcases List.mem_append.mp h with h | h
    · obtain ⟨r, hr, rfl⟩ := List.mem_map.mp (List.mem_of_mem_take h)
      exact .inr ⟨r, List.mem_of_mem_eraseIdx hr, rfl⟩
    · exact .inl (List.mem_singleton.mp h)
  · obtain ⟨r, hr, rfl⟩ := List.mem_map.mp (List.mem_of_mem_drop h)
    exact .inr ⟨r, List.mem_of_mem_eraseIdx hr, rfl⟩
theorem Fst.step (hg : g = 0 ∨ Gr5 g) {at_ n place : Nat} {orig rows : List (List Int)} {h : List Nat} {head : List Int} (f : Fst V at_ n orig rows h) (hm : h.length ≤ place) (hh : rows[place]? = some head) (hne : gt head at_ ≠ 0) : Fst V (at_ + 1) n orig (stepF g at_ h.length place head rows) (h ++ [at_]) := by
  have hp := (List.getElem?_eq_some_iff.mp hh).1
  have hmem := List.mem_of_getElem? hh
  have hln := f.len head hmem
  have ihead := f.ing head hmem
  have vne : V.i (gt head at_) ≠ 0 := fun z => hne (V.iz ihead z)
  obtain ⟨y, hy⟩ := V.inv _ vne
  have hz0 : ∀ j, j < at_ → V.i (gt head j) = 0 := f.non place head hm hh
  have cl : ∀ r ∈ rows, ∃ s : F, s ≠ 0 ∧ ∀ x, s * V.i (gt (clearF g at_ head r) x) = V.i (gt head at_) * V.i (gt r x) - V.i (gt r at_) * V.i (gt head x) := fun r hr => V.clear ihead (by rw [f.len r hr, hln]) hne
  obtain ⟨A, hA, hAr⟩ := f.piv
  have hb1 : (fun j => y * V.i (gt head j) : Row F) at_ = 1 := by
    show y * V.i (gt head at_) = 1
    grind
  have hR := hA.step (k := at_) (b := fun j => y * V.i (gt head j)) f.hd hb1 (fun j hj => by rw [hz0 j hj]; grind)
  have hspan : ∀ r ∈ rows, InS (rows.map (fr V)) (fr V r) := fun r hr => InS.mem (List.mem_map.mpr ⟨r, hr, rfl⟩)
  refine ⟨?_, fun p hp' => ?_, ⟨_, hR, fun i a r' p ha hr hpi => ?_⟩, fun i r' hi hr j hj => ?_, fun r' hr => ?_, fun r hr => ?_, fun r' hr => ?_, fun r' hr => ?_⟩
  · rw [step_len hp hm, List.length_append]
    show h.length + 1 ≤ rows.length
    omega
  · rcases List.mem_append.mp hp' with z | z
    · exact Nat.lt_succ_of_lt (f.hd p z)
    · rw [List.mem_singleton.mp z]
      exact Nat.lt_succ_self _
  · by_cases hi : i < h.length
    · rw [List.getElem?_append_left (by rw [List.length_map, hA.len]; exact hi), List.getElem?_map] at ha
      rw [List.getElem?_append_left hi] at hpi
      obtain ⟨r, er, rfl⟩ := step_piv hp hm hi hr
      cases ea : A[i]? with
      | none => rw [ea] at ha; cases ha
      | some a0 =>
        rw [ea] at ha
        have e0 : a = clr at_ (fun j => y * V.i (gt head j)) a0 := (Option.some.inj ha).symm
        obtain ⟨hn, hx⟩ := hAr i a0 r p ea er hpi
        obtain ⟨s, hs, e⟩ := cl r (List.mem_of_getElem? er)
        have hpz := hz0 p (f.hd p (List.mem_of_getElem? hpi))
        have ep := e p
        rw [hpz] at ep
        have hsp : s * V.i (gt (clearF g at_ head r) p) = V.i (gt head at_) * V.i (gt r p) := by grind
        refine ⟨fun z => ?_, fun j => ?_⟩
        · rw [z] at hsp
          have h0 : V.i (gt head at_) * V.i (gt r p) = 0 := by grind
          exact hn (V.dom h0 vne)
        · refine V.cancel (z := s) ?_ hs
          have ej := e j
          rw [hx j, hx at_] at ej
          rw [e0]
          show V.i (gt (clearF g at_ head r) j) * s = V.i (gt (clearF g at_ head r) p) * (a0 j + -(a0 at_) * (y * V.i (gt head j))) * s
          have h1 : V.i (gt (clearF g at_ head r) j) * s = V.i (gt head at_) * (V.i (gt r p) * a0 j) - V.i (gt r p) * a0 at_ * V.i (gt head j) := by
            rw [← ej]
            grind
          have h2 : V.i (gt (clearF g at_ head r) p) * (a0 j + -(a0 at_) * (y * V.i (gt head j))) * s = V.i (gt head at_) * V.i (gt r p) * (a0 j + -(a0 at_) * (y * V.i (gt head j))) := by
            rw [← hsp]
            grind
          rw [h1, h2]
          grind
    · have hlen : (A.map (clr at_ (fun j => y * V.i (gt head j)))).length = h.length := by rw [List.length_map, hA.len]
      rw [List.getElem?_append_right (by omega), hlen] at ha
      rw [List.getElem?_append_right (by omega)] at hpi
      cases hd : i - h.length with
      | succ m =>
        rw [hd] at hpi
        cases hpi
      | zero =>
        rw [hd] at ha hpi
        have ei : i = h.length := by omega
        subst ei
        rw [step_mid hp hm] at hr
        have e1 : head = r' := Option.some.inj hr
        have e2 : at_ = p := Option.some.inj hpi
        have e3 : (fun j => y * V.i (gt head j)) = a := Option.some.inj ha
        subst e1 e2 e3
        refine ⟨vne, fun j => ?_⟩
        show V.i (gt head j) = V.i (gt head at_) * (y * V.i (gt head j))
        grind
  · have hi' : h.length < i := by
      rw [List.length_append] at hi
      exact hi
    obtain ⟨r, er, rfl⟩ := step_non hp hm hi' hr
    obtain ⟨s, hs, e⟩ := cl r (List.mem_of_getElem? er)
    refine V.dom (x := s) ?_ hs
    rw [e j]
    by_cases ej : j = at_
    · subst ej
      grind
    · rw [f.non _ r (by unfold Fd.skip; split <;> omega) er j (by omega), hz0 j (by omega)]
      grind
  · rcases step_mem hr with rfl | ⟨r, hr', rfl⟩
    · exact f.sp1 _ hmem
    · obtain ⟨s, hs, e⟩ := cl r hr'
      obtain ⟨z, hz⟩ := V.inv s hs
      have s1 := InS.spc (orig.map (fr V))
      have e2 : fr V (clearF g at_ head r) = fun j => z * (V.i (gt head at_) * fr V r j + (-V.i (gt r at_)) * fr V head j) := by
        funext j
        show V.i (gt (clearF g at_ head r) j) = z * (V.i (gt head at_) * V.i (gt r j) + (-V.i (gt r at_)) * V.i (gt head j))
        have := e j
        grind
      rw [e2]
      exact s1.mul z _ (s1.add _ _ (s1.mul _ _ (f.sp1 r hr')) (s1.mul _ _ (f.sp1 head hmem)))
  · refine (f.sp2 r hr).trans fun u hu => ?_
    obtain ⟨r0, hr0, rfl⟩ := List.mem_map.mp hu
    obtain ⟨k, hk⟩ := List.getElem?_of_mem hr0
    have hhead : InS ((stepF g at_ h.length place head rows).map (fr V)) (fr V head) := InS.mem (List.mem_map.mpr ⟨head, List.mem_of_getElem? (step_mid hp hm), rfl⟩)
    by_cases ek : k = place
    · subst ek
      have : r0 = head := Option.some.inj (hk.symm.trans hh)
      rw [this]
      exact hhead
    · have hcl : InS ((stepF g at_ h.length place head rows).map (fr V)) (fr V (clearF g at_ head r0)) := InS.mem (List.mem_map.mpr ⟨_, step_all hp hm ek hk, rfl⟩)
      obtain ⟨s, hs, e⟩ := cl r0 hr0
      have s1 := InS.spc ((stepF g at_ h.length place head rows).map (fr V))
      have e2 : fr V r0 = fun j => y * (s * fr V (clearF g at_ head r0) j + V.i (gt r0 at_) * fr V head j) := by
        funext j
        show V.i (gt r0 j) = y * (s * V.i (gt (clearF g at_ head r0) j) + V.i (gt r0 at_) * V.i (gt head j))
        have := e j
        grind
      rw [e2]
      exact s1.mul y _ (s1.add _ _ (s1.mul _ _ hcl) (s1.mul _ _ hhead))
  · rcases step_mem hr with rfl | ⟨r, hr', rfl⟩
    · exact ihead
    · exact clear_ing hg (f.ing r hr')
  · rcases step_mem hr with rfl | ⟨r, hr', rfl⟩
    · exact hln
    · rw [clear_len (by rw [f.len r hr', hln]), f.len r hr']
end
/-- one head more, for the sizes -/
theorem _root_.Fd.Sz.step {A n at_ place : Nat} {P O : List (List Int)} {c : List Nat} {rows : List (List Int)} {head : List Int} (z : Sz A n P O c rows) (hm : P.length ≤ place) (hh : rows[place]? = some head) (hne : gt head at_ ≠ 0) (hl : ∀ r ∈ rows, r.length = head.length) :
    ∃ o O', Sz A n (o :: P) O' (at_ :: c) (stepF 0 at_ P.length place head rows) := by
  have hp := (List.getElem?_eq_some_iff.mp hh).1
  have hOl : place - P.length < O.length := by have := z.lr; omega
  have hO : O[place - P.length]? = some (O[place - P.length]'hOl) := List.getElem?_eq_getElem _
  have hnon := z.non (place - P.length) _ head hO (by rw [show P.length + (place - P.length) = place by omega]; exact hh)
  have cl : ∀ r ∈ rows, Clr (gt head at_) (gt r at_) head r (clearF 0 at_ head r) ∧ (Prim (clearF 0 at_ head r) ∨ Nul (clearF 0 at_ head r)) := fun r hr => clear_zero (hl r hr) hne (z.pri r hr)
  refine ⟨O[place - P.length]'hOl, O.eraseIdx (place - P.length), by rw [List.length_cons, List.length_cons, z.lc], ?_, hnon.det z.lc z.det hne, fun i x => ?_, fun i x => ?_, fun i r' hi hr => ?_, fun i o r' ho hr => ?_, fun r' hr => ?_⟩
  · rw [step_len hp hm, List.length_cons, List.length_eraseIdx_of_lt hOl]
    have := z.lr
    omega
  · cases i with
    | zero =>
      rw [ent_zero]
      have := z.bO (place - P.length) x
      have e3 : O.getD (place - P.length) [] = O[place - P.length]'hOl := by rw [List.getD_eq_getElem?_getD, hO]; rfl
      unfold ent at this
      rw [e3] at this
      exact this
    | succ i =>
      rw [ent_succ]
      exact z.bP i x
  · rw [ent_erase]
    exact z.bO _ x
  · rw [List.length_cons] at hi ⊢
    by_cases hi2 : i < P.length
    · obtain ⟨r, er, rfl⟩ := step_piv hp hm hi2 hr
      have := (z.piv i r hi2 er).clear hnon hne (cl r (List.mem_of_getElem? er)).1
      rw [show P.length + 1 - 1 - i = P.length - 1 - i + 1 by omega]
      exact this
    · have ei : i = P.length := by omega
      subst ei
      rw [step_mid hp hm] at hr
      cases hr
      rw [show P.length + 1 - 1 - P.length = 0 by omega]
      exact hnon.head hne
  · rw [List.length_cons, show P.length + 1 + i = P.length + i + 1 by omega] at hr
    obtain ⟨r, er, rfl⟩ := step_non hp hm (by omega) hr
    rw [show P.length + i + 1 - 1 = P.length + i by omega] at er
    refine NonP.clear ?_ hnon hne (cl r (List.mem_of_getElem? er)).1
    rw [List.getElem?_eraseIdx] at ho
    by_cases hi2 : i < place - P.length
    · rw [if_pos hi2] at ho
      refine z.non i o r ho ?_
      unfold skip at er
      rw [if_pos (by omega)] at er
      exact er
    · rw [if_neg hi2] at ho
      refine z.non (i + 1) o r ho ?_
      unfold skip at er
      rw [if_neg (by omega)] at er
      exact er
  · rcases step_mem hr with rfl | ⟨r, hr', rfl⟩
    · exact z.pri _ (List.mem_of_getElem? hh)
    · exact (cl r hr').2
theorem _root_.Fd.Sz.start {A n : Nat} {rows : List (List Int)} (hb : ∀ r ∈ rows, ∀ x, (gt r x).natAbs ≤ A) (hp : ∀ r ∈ rows, Prim r ∨ Nul r) : Sz A n [] rows [] rows := by
  refine ⟨rfl, by rw [List.length_nil, Nat.zero_add], by show (1 : Int) ≠ 0; decide, fun i x => ?_, fun i x => ?_, fun i r hi => absurd hi (Nat.not_lt_zero _), fun i o r ho hr => ?_, hp⟩
  · show (gt (([] : List (List Int)).getD i []) x).natAbs ≤ A
    have : ([] : List (List Int)).getD i [] = [] := by simp
    rw [this]
    exact Nat.zero_le _
  · show (gt (rows.getD i []) x).natAbs ≤ A
    cases e : rows[i]? with
    | none =>
      have e2 : rows.getD i [] = [] := by rw [List.getD_eq_getElem?_getD, e]; rfl
      rw [e2]
      exact Nat.zero_le _
    | some r =>
      have e2 : rows.getD i [] = r := by rw [List.getD_eq_getElem?_getD, e]; rfl
      rw [e2]
      exact hb r (List.mem_of_getElem? e) x
  · rw [List.length_nil, Nat.zero_add] at hr
    have e : o = r := Option.some.inj (ho.symm.trans hr)
    subst e
    refine ⟨1, 1, fun _ => 0, by decide, by decide, fun x => ?_, fun k hk => by cases hk⟩
    show 1 * gt o x = 1 * gt o x + 0
    omega
end Fm

namespace Fm
open Lean.Grind PySem L2 Fr Fd
/-! ### least rows as numbers -/
def hdF (r : List Int) : Int := ((r.filter fun x => decide (x ≠ 0)).head?).getD 0
def headF (g : Int) (r : List Int) : List (Int × Int) := r.map fun x => lowF g x (hdF r)
theorem hd_at : ∀ {r : List Int} {p : Nat}, (∀ j, j < p → gt r j = 0) → gt r p ≠ 0 → hdF r = gt r p
  | [], p, _, h => absurd (by unfold gt; simp) h
  | a :: r, 0, _, h => by
    have ha : a ≠ 0 := h
    unfold hdF
    rw [List.filter_cons, if_pos (decide_eq_true ha)]
    rfl
  | a :: r, p + 1, h0, h => by
    have ha : a = 0 := h0 0 (Nat.succ_pos _)
    have ih := hd_at (r := r) (p := p) (fun j hj => h0 (j + 1) (Nat.succ_lt_succ hj)) h
    unfold hdF at ih ⊢
    rw [List.filter_cons, if_neg (by rw [decide_eq_false (fun z => z ha)]; exact Bool.false_ne_true)]
    exact ih
section
variable {g : Int} {F : Type} [CommRing F] (V : GV g F)
/-- T: the least rows of t -/
structure LeastR (n k : Nat) (t T : List (List (Int × Int))) : Prop where
  row : ∀ r ∈ T, r.length = n ∧ ∀ a ∈ r, TN g k a
  rr : ∃ h, Rr (T.map (er V)) h ∧ ∀ p ∈ h, p < n
  s1 : ∀ r ∈ T, InS (t.map (er V)) (er V r)
  s2 : ∀ r ∈ t, InS (T.map (er V)) (er V r)
variable {V}
theorem er_at {r : List (Int × Int)} {j : Nat} (hj : j < r.length) : er V r j = V.e r[j] := by
  unfold er
  rw [List.getD_eq_getElem?_getD, List.getElem?_eq_getElem hj]
  rfl
theorem er_out {r : List (Int × Int)} {j : Nat} (hj : r.length ≤ j) : er V r j = 0 := by
  unfold er
  rw [List.getD_eq_getElem?_getD, List.getElem?_eq_none hj]
  exact V.zero
theorem er_inj (hg : g = 0 ∨ Gr5 g) {n k l : Nat} {r s : List (Int × Int)} (hr : r.length = n ∧ ∀ a ∈ r, TN g k a) (hs : s.length = n ∧ ∀ a ∈ s, TN g l a) (e : er V r = er V s) : r = s := by
  refine V.injL hg hr.2 hs.2 ?_
  refine List.ext_getElem (by rw [List.length_map, List.length_map, hr.1, hs.1]) fun i h1 h2 => ?_
  rw [List.length_map] at h1 h2
  rw [List.getElem_map, List.getElem_map, ← er_at h1, ← er_at h2, e]
theorem LeastR.uniq (hg : g = 0 ∨ Gr5 g) {n k l : Nat} {t t' T T' : List (List (Int × Int))} (a : LeastR V n k t T) (b : LeastR V n l t' T') (h1 : ∀ r ∈ t, InS (t'.map (er V)) (er V r)) (h2 : ∀ r ∈ t', InS (t.map (er V)) (er V r)) : T = T' := by
  obtain ⟨h, R, _⟩ := a.rr
  obtain ⟨h', R', _⟩ := b.rr
  have go : ∀ {t t' T T' : List (List (Int × Int))}, (∀ r ∈ T, InS (t.map (er V)) (er V r)) → (∀ r ∈ t, InS (t'.map (er V)) (er V r)) → (∀ r ∈ t', InS (T'.map (er V)) (er V r)) → ∀ u ∈ T.map (er V), InS (T'.map (er V)) u := fun {t t' T T'} x y z u hu => by
    obtain ⟨r, hr, rfl⟩ := List.mem_map.mp hu
    refine (InS.trans (M := t'.map (er V)) (x r hr) fun v hv => ?_).trans fun v hv => ?_
    · obtain ⟨q, hq, rfl⟩ := List.mem_map.mp hv
      exact y q hq
    · obtain ⟨q, hq, rfl⟩ := List.mem_map.mp hv
      exact z q hq
  have e := (R.uniq V.ne R' (go a.s1 h1 b.s2) (go b.s1 h2 a.s2)).1
  have hl : T.length = T'.length := by
    have := congrArg List.length e
    rw [List.length_map, List.length_map] at this
    exact this
  refine List.ext_getElem hl fun i i1 i2 => ?_
  have e2 : (T.map (er V))[i]? = (T'.map (er V))[i]? := by rw [e]
  rw [List.getElem?_map, List.getElem?_map, List.getElem?_eq_getElem i1, List.getElem?_eq_getElem i2] at e2
  exact er_inj hg (a.row _ (List.getElem_mem i1)) (b.row _ (List.getElem_mem i2)) (Option.some.inj e2)
/-- the program's whole numbers of a row: its numbers times one -/
theorem wr_fr (hg : g = 0 ∨ Gr5 g) {k : Nat} {r : List (Int × Int)} (hr : ∀ a ∈ r, TN g k a) : V.i (wrB r) ≠ 0 ∧ ∀ j, V.i (gt (wrT r) j) = V.i (wrB r) * er V r j := by
  have hpos : ∀ x ∈ r, 0 < x.2 := fun x hx => (hr x hx).pos
  have hb := (wrB_spec hpos).1
  refine ⟨V.ine (by omega) fun z => ?_, fun j => ?_⟩
  · have h5 := hg.resolve_left z
    have g0 : 0 < g := by unfold Gr5 at h5; omega
    rw [wrB_one fun x hx => (hr x hx).one g0]
    exact one_fmod h5
  · by_cases hj : j < r.length
    · have hm := List.getElem_mem hj
      have e1 : gt (wrT r) j = r[j].1 * (wrB r).fdiv r[j].2 := by
        unfold gt wrT
        rw [List.getD_eq_getElem?_getD, List.getElem?_map, List.getElem?_eq_getElem hj]
        rfl
      obtain ⟨q, hq⟩ := (wrB_spec hpos).2.1 _ hm
      have hp := hpos _ hm
      have e2 : (wrB r).fdiv r[j].2 = q := by
        rw [hq]
        exact Int.mul_fdiv_cancel_left _ (by omega)
      obtain ⟨e3, _⟩ := V.tn hg (hr _ hm)
      rw [e1, e2, er_at hj, hq, V.imul, V.imul, ← e3]
      grind
    · have e1 : gt (wrT r) j = 0 := by
        unfold gt wrT
        rw [List.getD_eq_getElem?_getD, List.getElem?_map, List.getElem?_eq_none (by omega)]
        rfl
      rw [e1, er_out (by omega), V.i0]
      grind
/-- behind the last column -/
theorem Fst.done (hg : g = 0 ∨ Gr5 g) {n k : Nat} {orig rows : List (List Int)} {h : List Nat} {t : List (List (Int × Int))} (f : Fst V n n orig rows h) (hk : 4 ≤ k) (hs : ∀ r ∈ rows, ∀ x, (gt r x).natAbs < 2 ^ k)
    (ht1 : ∀ r ∈ t, InS (orig.map (fr V)) (er V r)) (ht2 : ∀ o ∈ orig, InS (t.map (er V)) (fr V o)) : LeastR V n k t ((rows.take h.length).map (headF g)) := by
  obtain ⟨A, hA, hAr⟩ := f.piv
  have hlen : (rows.take h.length).length = h.length := by rw [List.length_take]; have := f.lr; omega
  -- each pivot's row by its head
  have key : ∀ (i : Nat) (r : List Int), i < h.length → rows[i]? = some r → ∃ a p, A[i]? = some a ∧ h[i]? = some p ∧ p < n ∧ gt r p ≠ 0 ∧ hdF r = gt r p ∧ er V (headF g r) = a ∧ (∀ j, V.i (gt r j) = V.i (gt r p) * a j) ∧ ∀ b ∈ headF g r, TN g k b := fun i r hi hr => by
    have ea : A[i]? = some (A[i]'(by rw [hA.len]; exact hi)) := List.getElem?_eq_getElem _
    have eh : h[i]? = some h[i] := List.getElem?_eq_getElem hi
    have hmem := List.mem_of_getElem? hr
    obtain ⟨hn, hx⟩ := hAr i _ r _ ea hr eh
    have ing := f.ing r hmem
    have hne : gt r h[i] ≠ 0 := fun z => hn (by rw [z, V.i0])
    have hd0 : hdF r = gt r h[i] := hd_at (fun j hj => V.iz ing (by rw [hx j, hA.ahead i _ _ j ea eh hj]; grind)) hne
    have hfm : g ≠ 0 → (gt r h[i]).fmod g ≠ 0 := fun z => by
      have h5 := hg.resolve_left z
      have g0 : 0 < g := by unfold Gr5 at h5; omega
      obtain ⟨q1, q2⟩ := ing z h[i]
      rw [fmod_pos _ g0, Int.emod_eq_of_lt q1 q2]
      exact hne
    have hlow : ∀ x : Int, V.e (lowF g x (gt r h[i])) * V.i (gt r h[i]) = V.i x := fun x => V.low hg hne hfm
    refine ⟨_, _, ea, eh, f.hd _ (List.getElem_mem hi), hne, hd0, funext fun j => ?_, hx, fun b hb => ?_⟩
    · refine V.cancel (z := V.i (gt r h[i])) ?_ hn
      by_cases hj : j < r.length
      · have hj' : j < (headF g r).length := by unfold headF; rw [List.length_map]; exact hj
        rw [er_at hj']
        have e1 : (headF g r)[j] = lowF g r[j] (gt r h[i]) := by
          rw [← hd0]
          exact List.getElem_map ..
        have e2 : gt r j = r[j] := by unfold gt; rw [List.getD_eq_getElem?_getD, List.getElem?_eq_getElem hj]; rfl
        rw [e1, hlow, ← e2, hx j]
        grind
      · rw [er_out (by unfold headF; rw [List.length_map]; omega)]
        have e2 : gt r j = 0 := by unfold gt; rw [List.getD_eq_getElem?_getD, List.getElem?_eq_none (by omega)]; rfl
        have h2 := hx j
        rw [e2, V.i0] at h2
        grind
    · obtain ⟨x, hx', rfl⟩ := List.mem_map.mp hb
      rw [hd0]
      obtain ⟨j, hj, rfl⟩ := List.mem_iff_getElem.mp hx'
      have e2 : gt r j = r[j] := by unfold gt; rw [List.getD_eq_getElem?_getD, List.getElem?_eq_getElem hj]; rfl
      rw [← e2]
      exact tn_low hg hne hfm hk (hs r hmem j) (hs r hmem _)
  have hmapA : ((rows.take h.length).map (headF g)).map (er V) = A := by
    refine List.ext_getElem? fun i => ?_
    rw [List.getElem?_map, List.getElem?_map]
    by_cases hi : i < h.length
    · rw [List.getElem?_take, if_pos hi]
      have hr : rows[i]? = some (rows[i]'(by have := f.lr; omega)) := List.getElem?_eq_getElem _
      obtain ⟨a, p, ea, _, _, _, _, e, _⟩ := key i _ hi hr
      rw [hr, ea]
      exact congrArg some e
    · rw [List.getElem?_take, if_neg hi, List.getElem?_eq_none (by rw [hA.len]; omega)]
      rfl
  -- rows of the field: the pivots' span all
  have hin : ∀ r ∈ rows, InS A (fr V r) := fun r hr => by
    obtain ⟨i, hi⟩ := List.getElem?_of_mem hr
    by_cases hi2 : i < h.length
    · obtain ⟨a, p, ea, _, _, _, _, _, hx, _⟩ := key i r hi2 hi
      have e2 : fr V r = fun j => V.i (gt r p) * a j := funext hx
      rw [e2]
      exact (InS.spc A).mul _ _ (InS.mem (List.mem_of_getElem? ea))
    · have e2 : fr V r = fun _ => 0 := funext fun j => by
        show V.i (gt r j) = 0
        by_cases hj : j < n
        · exact f.non i r (by omega) hi j hj
        · have : gt r j = 0 := by unfold gt; rw [List.getD_eq_getElem?_getD, List.getElem?_eq_none (by rw [f.len r hr]; omega)]; rfl
          rw [this, V.i0]
      rw [e2]
      exact (InS.spc A).zero
  refine ⟨fun r hr => ?_, ⟨h, by rw [hmapA]; exact hA, f.hd⟩, fun r hr => ?_, fun r hr => ?_⟩
  · obtain ⟨o, ho, rfl⟩ := List.mem_map.mp hr
    obtain ⟨i, hi⟩ := List.getElem?_of_mem ho
    rw [List.getElem?_take] at hi
    by_cases hi2 : i < h.length
    · rw [if_pos hi2] at hi
      obtain ⟨_, _, _, _, _, _, _, _, _, ht⟩ := key i o hi2 hi
      exact ⟨by unfold headF; rw [List.length_map]; exact f.len o (List.mem_of_getElem? hi), ht⟩
    · rw [if_neg hi2] at hi
      cases hi
  · obtain ⟨o, ho, rfl⟩ := List.mem_map.mp hr
    obtain ⟨i, hi⟩ := List.getElem?_of_mem ho
    rw [List.getElem?_take] at hi
    by_cases hi2 : i < h.length
    · rw [if_pos hi2] at hi
      obtain ⟨a, p, ea, _, _, hne, _, e, hx, _⟩ := key i o hi2 hi
      have hmem := List.mem_of_getElem? hi
      have hn : V.i (gt o p) ≠ 0 := fun z => hne (V.iz (f.ing o hmem) z)
      obtain ⟨y, hy⟩ := V.inv _ hn
      have e2 : er V (headF g o) = fun j => y * fr V o j := funext fun j => by
        rw [e]
        show a j = y * V.i (gt o j)
        rw [hx j]
        grind
      rw [e2]
      refine (InS.spc _).mul y _ ((f.sp1 o hmem).trans fun v hv => ?_)
      obtain ⟨q, hq, rfl⟩ := List.mem_map.mp hv
      exact ht2 q hq
    · rw [if_neg hi2] at hi
      cases hi
  · rw [hmapA]
    refine (InS.trans (M := rows.map (fr V)) (ht1 r hr) fun v hv => ?_).trans fun v hv => ?_
    · obtain ⟨q, hq, rfl⟩ := List.mem_map.mp hv
      exact f.sp2 q hq
    · obtain ⟨q, hq, rfl⟩ := List.mem_map.mp hv
      exact hin q hq
end
end Fm

namespace Fr
open Lean.Grind
variable {F : Type} [CommRing F]
/-! ### what only changes its sign where two neighbours are exchanged -/
def Sw {α : Type} (m : Nat) (f : List α → F) : Prop := ∀ (pre : List α) (u v : α) (post : List α), pre.length + post.length + 2 = m → f (pre ++ u :: v :: post) = -f (pre ++ v :: u :: post)
theorem Sw.move {α : Type} {m : Nat} {f : List α → F} (a : Sw m f) {u : α} : ∀ (mid pre post : List α), pre.length + mid.length + post.length + 1 = m → f (pre ++ u :: (mid ++ post)) = sF mid.length * f (pre ++ mid ++ u :: post)
  | [], pre, post, _ => by
    show f (pre ++ u :: post) = 1 * f (pre ++ [] ++ u :: post)
    rw [List.append_nil]
    grind
  | v :: mid, pre, post, h => by
    rw [List.length_cons] at h
    have h1 := a pre u v (mid ++ post) (by rw [List.length_append]; omega)
    have h2 := Sw.move a mid (pre ++ [v]) post (by rw [List.length_append]; show pre.length + 1 + mid.length + post.length + 1 = m; omega) (u := u)
    simp only [List.append_assoc, List.singleton_append] at h2
    show f (pre ++ u :: v :: (mid ++ post)) = sF (mid.length + 1) * f (pre ++ v :: mid ++ u :: post)
    rw [h1, h2, sF_succ]
    simp only [List.append_assoc, List.cons_append]
    grind
theorem Sw.tail {α : Type} {m : Nat} {f : List α → F} (a : Sw (m + 1) f) (u : α) : Sw m fun l => f (u :: l) := fun pre v w post h => a (u :: pre) v w post (by rw [List.length_cons]; omega)
/-- the sign of the other way about -/
def eF : Nat → F
  | 0 => 1
  | n + 1 => sF n * eF n
theorem eF_sq : ∀ n, (eF n * eF n : F) = 1
  | 0 => by
    show (1 : F) * 1 = 1
    grind
  | n + 1 => by
    show sF n * eF n * (sF n * eF n) = (1 : F)
    have h1 := eF_sq n
    have h2 := sF_sq n (F := F)
    grind
theorem Sw.rev {α : Type} : ∀ (l : List α) (f : List α → F), Sw l.length f → f l.reverse = eF l.length * f l
  | [], f, _ => by
    show f [] = 1 * f []
    grind
  | u :: l, f, a => by
    rw [List.length_cons] at a
    have h1 := a.move (u := u) l.reverse [] [] (by rw [List.length_reverse]; simp)
    have h2 := Sw.rev l (fun l => f (u :: l)) (a.tail u)
    rw [List.append_nil, List.nil_append, List.nil_append, List.length_reverse] at h1
    have h2' : f (u :: l.reverse) = eF l.length * f (u :: l) := h2
    rw [List.reverse_cons]
    show f (l.reverse ++ [u]) = sF l.length * eF l.length * f (u :: l)
    rw [h2'] at h1
    have h3 := sF_sq l.length (F := F)
    have : f (l.reverse ++ [u]) = sF l.length * (eF l.length * f (u :: l)) := by
      rw [h1]
      grind
    rw [this]
    grind
end Fr
namespace Fd
open Lean.Grind Fr
/-! ### whole numbers: after Bareiss -/
abbrev gR (r : List Int) : Row Int := fun x => gt r x
theorem S_SF (f : Nat → Int) : ∀ n, S f n = SF f n
  | 0 => rfl
  | n + 1 => by
    show S f n + f n = SF f n + f n
    rw [S_SF f n]
theorem sg_sF (i : Nat) : sg i = sF i := rfl
theorem dt_dC : ∀ (cs : List Nat) (P : List (List Int)), dt P cs = dC (P.map gR) cs
  | [], _ => rfl
  | c :: cs, P => by
    show S (fun i => sg i * ent P i c * dt (P.eraseIdx i) cs) P.length = SF (fun i => sF i * ((P.map gR).getD i zr) c * dC ((P.map gR).eraseIdx i) cs) (P.map gR).length
    rw [S_SF, List.length_map]
    refine SF_congr fun i hi => ?_
    rw [dt_dC cs (P.eraseIdx i)]
    have e1 : (P.eraseIdx i).map gR = (P.map gR).eraseIdx i := by rw [List.eraseIdx_eq_take_drop_succ, List.eraseIdx_eq_take_drop_succ, List.map_append, List.map_take, List.map_drop]
    have e2 : ent P i c = ((P.map gR).getD i zr) c := by
      have q1 : P.getD i [] = P[i] := by rw [List.getD_eq_getElem?_getD, List.getElem?_eq_getElem hi]; rfl
      have q2 : (P.map gR).getD i zr = gR P[i] := by rw [List.getD_eq_getElem?_getD, List.getElem?_map, List.getElem?_eq_getElem hi]; rfl
      unfold ent
      rw [q1, q2]
    rw [e1, e2]
    rfl
/-- the rows' signs -/
theorem dt_sw (cs : List Nat) : Sw cs.length (fun P : List (List Int) => dt P cs) := fun pre u v post h => by
  have a := (dC_alt cs (F := Int)).swap (pre := pre.map gR) (post := post.map gR) (u := gR u) (v := gR v) (by rw [List.length_map, List.length_map]; exact h)
  show dt (pre ++ u :: v :: post) cs = -dt (pre ++ v :: u :: post) cs
  rw [dt_dC, dt_dC, List.map_append, List.map_append, List.map_cons, List.map_cons, List.map_cons, List.map_cons]
  exact a
/-- the columns' signs -/
theorem dt_csw : ∀ (P : List (List Int)) (m : Nat), Sw m (fun cs : List Nat => dt P cs) := fun P m pre => by
  have go : ∀ (pre : List Nat) (P : List (List Int)) (u v : Nat) (post : List Nat), dt P (pre ++ u :: v :: post) = -dt P (pre ++ v :: u :: post) := fun pre => by
    induction pre with
    | nil => exact fun P u v post => dt_swap P u v post
    | cons c pre ih =>
      intro P u v post
      show S (fun i => sg i * ent P i c * dt (P.eraseIdx i) (pre ++ u :: v :: post)) P.length = -S (fun i => sg i * ent P i c * dt (P.eraseIdx i) (pre ++ v :: u :: post)) P.length
      rw [← S_neg]
      exact S_congr fun i _ => by
        rw [ih (P.eraseIdx i) u v post]
        grind
  exact fun u v post _ => go pre P u v post
theorem dt_rev {P : List (List Int)} {cs : List Nat} (hl : P.length = cs.length) : dt P.reverse cs.reverse = dt P cs := by
  have a1 := dt_sw cs.reverse
  rw [List.length_reverse, ← hl] at a1
  have h1 : dt P.reverse cs.reverse = eF P.length * dt P cs.reverse := Sw.rev P (fun P => dt P cs.reverse) a1
  have h2 : dt P cs.reverse = eF cs.length * dt P cs := Sw.rev cs (fun cs => dt P cs) (dt_csw P _)
  rw [h1, h2, hl]
  have := eF_sq cs.length (F := Int)
  grind
/-- a row of others brought ahead -/
theorem dt_head {P O : List (List Int)} {p : Nat} {o : List Int} {cs : List Nat} (hl : P.length + O.length = cs.length) (ho : O[p]? = some o) : dt (P ++ O) cs = sg p * dt (P ++ o :: O.eraseIdx p) cs := by
  have hp := (List.getElem?_eq_some_iff.mp ho).1
  obtain ⟨e1, e2⟩ := erase_parts (d := []) hp
  have e3 : O.getD p [] = o := by rw [List.getD_eq_getElem?_getD, ho]; rfl
  rw [e3] at e1
  have a := (dt_sw cs).move (u := o) (O.take p) P (O.drop (p + 1)) (by rw [← hl, List.length_take, List.length_drop]; omega)
  have hlen : (O.take p).length = p := by rw [List.length_take]; omega
  rw [hlen] at a
  have a' : dt (P ++ o :: (O.take p ++ O.drop (p + 1))) cs = sF p * dt (P ++ O.take p ++ o :: O.drop (p + 1)) cs := a
  rw [e2, a', List.append_assoc, ← e1, sg_sF]
  have := sF_sq p (F := Int)
  grind
/-- where no row has another number than nought at the next column the determinant is nought -/
theorem dt_none {P O : List (List Int)} {c : List Nat} {j : Nat} {cs : List Nat} (hlP : P.length = c.length) (hD : dt P c ≠ 0) (hn : (j :: c).Nodup) (hz : ∀ o ∈ O, dt (o :: P) (j :: c) = 0) (hc : ∀ k ∈ c, k ∈ cs) (hj : j ∉ cs) (L : List (List Int)) (hL : ∀ r ∈ L, r ∈ P ∨ r ∈ O) : dt L (j :: cs) = 0 := by
  -- each row at j by its numbers at c
  have hrow : ∀ r ∈ L, dt P c * gt r j = S (fun k => -(sg (k + 1) * dt P (j :: c.eraseIdx k)) * gt r (c.getD k 0)) c.length := fun r hr => by
    have h0 : dt (r :: P) (j :: c) = 0 := by
      rcases hL r hr with h | h
      · rw [dt_dC, List.map_cons]
        obtain ⟨p1, p2, rfl⟩ := List.append_of_mem h
        have a := (dC_alt (j :: c) (F := Int)).twice (u := gR r) [] (p1.map gR) (p2.map gR) (by rw [List.length_append, List.length_cons] at hlP; rw [List.length_nil, List.length_map, List.length_map, List.length_cons]; omega)
        rw [List.map_append, List.map_cons]
        exact a
      · exact hz r h
    have e := dC_dR (rs := (r :: P).map gR) (cs := j :: c) (by rw [List.length_map, List.length_cons, List.length_cons, hlP]) hn
    rw [← dt_dC, h0, List.map_cons] at e
    have e' : (0 : Int) = SF (fun k => sF k * gR r ((j :: c).getD k 0) * dR (P.map gR) ((j :: c).eraseIdx k)) (c.length + 1) := e
    rw [SF_front] at e'
    have hdR : ∀ cs' : List Nat, cs'.Nodup → P.length = cs'.length → dR (P.map gR) cs' = dt P cs' := fun cs' h1 h2 => by rw [dt_dC, dC_dR (by rw [List.length_map]; exact h2) h1]
    have hn2 := List.nodup_cons.mp hn
    have e0 : sF 0 * gR r ((j :: c).getD 0 0) * dR (P.map gR) ((j :: c).eraseIdx 0) = dt P c * gt r j := by
      show 1 * gt r j * dR (P.map gR) c = _
      rw [hdR c hn2.2 hlP]
      grind
    have e1 : SF (fun i => sF (i + 1) * gR r ((j :: c).getD (i + 1) 0) * dR (P.map gR) ((j :: c).eraseIdx (i + 1))) c.length = -S (fun k => -(sg (k + 1) * dt P (j :: c.eraseIdx k)) * gt r (c.getD k 0)) c.length := by
      rw [← S_neg, S_SF]
      refine SF_congr fun i hi => ?_
      show sF (i + 1) * gt r (c.getD i 0) * dR (P.map gR) (j :: c.eraseIdx i) = -(-(sg (i + 1) * dt P (j :: c.eraseIdx i)) * gt r (c.getD i 0))
      rw [hdR (j :: c.eraseIdx i) (List.nodup_cons.mpr ⟨fun z => hn2.1 (List.mem_of_mem_eraseIdx z), hn2.2.sublist (List.eraseIdx_sublist ..)⟩) (by rw [List.length_cons, List.length_eraseIdx_of_lt hi]; omega), sg_sF]
      grind
    rw [e0, e1] at e'
    omega
  have hmul : dt P c * dt L (j :: cs) = 0 := by
    show dt P c * S (fun i => sg i * ent L i j * dt (L.eraseIdx i) cs) L.length = 0
    rw [← S_mul]
    have e1 : S (fun i => dt P c * (sg i * ent L i j * dt (L.eraseIdx i) cs)) L.length = S (fun i => S (fun k => -(sg (k + 1) * dt P (j :: c.eraseIdx k)) * (sg i * ent L i (c.getD k 0) * dt (L.eraseIdx i) cs)) c.length) L.length := S_congr fun i hi => by
      have hm : L.getD i [] ∈ L := by
        rw [List.getD_eq_getElem?_getD, List.getElem?_eq_getElem hi]
        exact List.getElem_mem hi
      have h1 := hrow _ hm
      have h2 : dt P c * (sg i * ent L i j * dt (L.eraseIdx i) cs) = sg i * dt (L.eraseIdx i) cs * (dt P c * gt (L.getD i []) j) := by
        show dt P c * (sg i * gt (L.getD i []) j * dt (L.eraseIdx i) cs) = _
        grind
      rw [h2, h1, ← S_mul]
      refine S_congr fun k _ => ?_
      show _ = -(sg (k + 1) * dt P (j :: c.eraseIdx k)) * (sg i * gt (L.getD i []) (c.getD k 0) * dt (L.eraseIdx i) cs)
      grind
    rw [e1, S_comm]
    rw [S_congr (g := fun _ => 0) fun k hk => ?_, S_zero]
    rw [S_mul]
    have hck : c.getD k 0 ∈ cs := hc _ (by
      rw [List.getD_eq_getElem?_getD, List.getElem?_eq_getElem hk]
      exact List.getElem_mem hk)
    have := dt_twice (c.getD k 0) cs L hck
    have h2 : S (fun i => sg i * ent L i (c.getD k 0) * dt (L.eraseIdx i) cs) L.length = 0 := this
    rw [h2, Int.mul_zero]
  rcases Int.mul_eq_zero.mp hmul with z | z
  · exact absurd z hD
  · exact z
/-- the loop's state: j columns done -/
structure Bst (A n j : Nat) (orig rows : List (List Int)) (sign last : Int) : Prop where
  ex : ∃ P O : List (List Int), P.length = j ∧ O.length + j = n ∧ rows.length = O.length ∧ dt P (List.range j).reverse = last ∧
    (∀ (i : Nat) (o r : List Int), O[i]? = some o → rows[i]? = some r → r.length = n - j ∧ ∀ x, x < n - j → gt r x = dt (o :: P) ((j + x) :: (List.range j).reverse)) ∧
    sign * dt (P.reverse ++ O) (List.range n) = dt orig (List.range n) ∧ (∀ r, r ∈ P ∨ r ∈ O → ∀ x, (gt r x).natAbs ≤ A)
  ne : last ≠ 0
theorem Bst.start {A n : Nat} {orig : List (List Int)} (hl : orig.length = n) (hr : ∀ r ∈ orig, r.length = n ∧ ∀ x, (gt r x).natAbs ≤ A) : Bst A n 0 orig orig 1 1 := by
  refine ⟨⟨[], orig, rfl, by omega, rfl, rfl, fun i o r ho hr' => ?_, by show 1 * dt orig _ = _; omega, fun r h x => ?_⟩, by decide⟩
  · have e : o = r := Option.some.inj (ho.symm.trans hr')
    subst e
    refine ⟨(hr o (List.mem_of_getElem? ho)).1, fun x _ => ?_⟩
    show gt o x = 0 + sg 0 * ent [o] 0 (0 + x) * 1
    rw [Nat.zero_add]
    show gt o x = 0 + 1 * gt o x * 1
    omega
  · rcases h with h | h
    · cases h
    · exact (hr r h).2 x
theorem Bst.bound {A n j : Nat} {orig rows : List (List Int)} {sign last : Int} (b : Bst A n j orig rows sign last) (hA : 1 ≤ A) (hj : j < n) : (∀ r ∈ rows, r.length = n - j ∧ ∀ x, (gt r x).natAbs ≤ (n * A) ^ n) ∧ last.natAbs ≤ (n * A) ^ n := by
  obtain ⟨P, O, hP, hO, hrl, hlast, hx, _, hb⟩ := b.ex
  have hbP : ∀ i x, (ent P i x).natAbs ≤ A := fun i x => by
    show (gt (P.getD i []) x).natAbs ≤ A
    cases e : P[i]? with
    | none =>
      have q1 : P.getD i [] = [] := by rw [List.getD_eq_getElem?_getD, e]; rfl
      have : gt [] x = 0 := by unfold gt; simp
      rw [q1, this]
      exact Nat.zero_le _
    | some r =>
      have q1 : P.getD i [] = r := by rw [List.getD_eq_getElem?_getD, e]; rfl
      rw [q1]
      exact hb r (.inl (List.mem_of_getElem? e)) x
  have hlr : (List.range j).reverse.length = j := by rw [List.length_reverse, List.length_range]
  refine ⟨fun r hr => ?_, ?_⟩
  · obtain ⟨i, hi⟩ := List.getElem?_of_mem hr
    have hil := (List.getElem?_eq_some_iff.mp hi).1
    have ho : O[i]? = some (O[i]'(by omega)) := List.getElem?_eq_getElem _
    obtain ⟨h1, h2⟩ := hx i _ r ho hi
    refine ⟨h1, fun x => ?_⟩
    by_cases hxn : x < n - j
    · rw [h2 x hxn]
      refine Nat.le_trans (dt_abs (A := A) _ _ (by rw [List.length_cons, List.length_cons, hlr, hP]) fun k y => ?_) ?_
      · cases k with
        | zero => rw [ent_zero]; exact hb _ (.inr (List.mem_of_getElem? ho)) y
        | succ k => rw [ent_succ]; exact hbP k y
      · rw [List.length_cons, hlr]
        exact pow_mono (by omega) (Nat.mul_le_mul (show 1 ≤ n by omega) hA)
    · have : gt r x = 0 := by unfold gt; rw [List.getD_eq_getElem?_getD, List.getElem?_eq_none (by omega)]; rfl
      rw [this]
      exact Nat.zero_le _
  · rw [← hlast]
    refine Nat.le_trans (dt_abs (A := A) _ P (by rw [hlr, hP]) hbP) ?_
    rw [hlr]
    exact pow_mono (by omega) (Nat.mul_le_mul (show 1 ≤ n by omega) hA)
/-- the program's smaller rows -/
def smF (last : Int) (head row : List Int) : List Int := (List.range (row.length - 1)).map fun k => (gt row (k + 1) * gt head 0 - gt row 0 * gt head (k + 1)).fdiv last
theorem range_rev (j : Nat) : (List.range (j + 1)).reverse = j :: (List.range j).reverse := by rw [List.range_succ, List.reverse_append]; rfl
theorem Bst.step {A n j p : Nat} {orig rows : List (List Int)} {sign last : Int} {head : List Int} (b : Bst A n j orig rows sign last) (hj : j + 1 < n) (hh : rows[p]? = some head) (hne : gt head 0 ≠ 0) : Bst A n (j + 1) orig ((rows.eraseIdx p).map (smF last head)) (sign * sg p) (gt head 0) := by
  obtain ⟨P, O, hP, hO, hrl, hlast, hx, hs, hb⟩ := b.ex
  have hp := (List.getElem?_eq_some_iff.mp hh).1
  have ho : O[p]? = some (O[p]'(by omega)) := List.getElem?_eq_getElem _
  obtain ⟨hl1, hx1⟩ := hx p _ head ho hh
  have hlr : (List.range j).reverse.length = j := by rw [List.length_reverse, List.length_range]
  have hh0 : gt head 0 = dt (O[p]'(by omega) :: P) (j :: (List.range j).reverse) := hx1 0 (by omega)
  refine ⟨⟨O[p]'(by omega) :: P, O.eraseIdx p, by rw [List.length_cons, hP], by rw [List.length_eraseIdx_of_lt (by omega)]; omega, by rw [List.length_map, List.length_eraseIdx_of_lt hp, List.length_eraseIdx_of_lt (by omega), hrl], by rw [range_rev]; exact hh0.symm, fun i o r ho' hr' => ?_, ?_, fun r h x => ?_⟩, hne⟩
  · rw [List.getElem?_map] at hr'
    rw [List.getElem?_eraseIdx] at ho' hr'
    have fin : ∀ (q : Nat) (r0 : List Int), O[q]? = some o → rows[q]? = some r0 → r = smF last head r0 → r.length = n - (j + 1) ∧ ∀ x, x < n - (j + 1) → gt r x = dt (o :: O[p]'(by omega) :: P) ((j + 1 + x) :: (List.range (j + 1)).reverse) := fun q r0 hoq hrq er => by
      obtain ⟨hl2, hx2⟩ := hx q o r0 hoq hrq
      subst er
      refine ⟨by unfold smF; rw [List.length_map, List.length_range, hl2]; omega, fun x hxn => ?_⟩
      have e1 : gt (smF last head r0) x = (gt r0 (x + 1) * gt head 0 - gt r0 0 * gt head (x + 1)).fdiv last := by
        unfold smF gt
        rw [List.getD_eq_getElem?_getD, List.getElem?_map, List.getElem?_range (by omega)]
        rfl
      have hsyl := dt_syl (P := P) (c := (List.range j).reverse) (by rw [hlr, hP]) (o := o) (h := O[p]'(by omega)) (k := j) (by rw [← hh0]; exact hne) (j + 1 + x)
      have q1 := hx2 (x + 1) (by omega)
      have q2 := hx2 0 (by omega)
      have q3 := hx1 (x + 1) (by omega)
      rw [show j + (x + 1) = j + 1 + x by omega] at q1 q3
      rw [show j + 0 = j by omega] at q2
      rw [e1, q1, q2, q3, hh0, range_rev, ← hsyl, hlast]
      exact Int.mul_fdiv_cancel_left _ b.ne
    split at ho'
    · rename_i hip
      rw [if_pos hip] at hr'
      cases e : rows[i]? with
      | none => rw [e] at hr'; cases hr'
      | some r0 =>
        rw [e] at hr'
        exact fin i r0 ho' e (Option.some.inj hr').symm
    · rename_i hip
      rw [if_neg hip] at hr'
      cases e : rows[i + 1]? with
      | none => rw [e] at hr'; cases hr'
      | some r0 =>
        rw [e] at hr'
        exact fin (i + 1) r0 ho' e (Option.some.inj hr').symm
  · have := dt_head (P := P.reverse) (O := O) (cs := List.range n) (by rw [List.length_reverse, List.length_range]; omega) ho
    rw [List.reverse_cons, List.append_assoc]
    show sign * sg p * dt (P.reverse ++ O[p]'(by omega) :: O.eraseIdx p) (List.range n) = _
    rw [← hs, this]
    grind
  · refine hb r ?_ x
    rcases h with h | h
    · rcases List.mem_cons.mp h with h | h
      · rw [h]
        exact .inr (List.getElem_mem _)
      · exact .inl h
    · exact .inr (List.mem_of_mem_eraseIdx h)
theorem Bst.none {A n j : Nat} {orig rows : List (List Int)} {sign last : Int} (b : Bst A n j orig rows sign last) (hj : j < n) (hz : ∀ (i : Nat) (r : List Int), rows[i]? = some r → gt r 0 = 0) : dt orig (List.range n) = 0 := by
  obtain ⟨P, O, hP, hO, hrl, hlast, hx, hs, hb⟩ := b.ex
  have hlr : (List.range j).reverse.length = j := by rw [List.length_reverse, List.length_range]
  have hjn : (List.range n)[j]? = some j := List.getElem?_range hj
  have mv := dt_move (List.range n) (P.reverse ++ O) j j hjn
  have hk : ∀ k, k < j → k ∈ (List.range n).eraseIdx j := fun k hk => List.mem_eraseIdx_iff_getElem?.mpr ⟨k, by omega, List.getElem?_range (by omega)⟩
  have hjm : j ∉ (List.range n).eraseIdx j := fun z => by
    obtain ⟨i, hi, e⟩ := List.mem_eraseIdx_iff_getElem?.mp z
    have hl := (List.getElem?_eq_some_iff.mp e).1
    rw [List.length_range] at hl
    rw [List.getElem?_range hl] at e
    exact hi (Option.some.inj e)
  have hnone := dt_none (P := P) (O := O) (c := (List.range j).reverse) (j := j) (cs := (List.range n).eraseIdx j) (by rw [hlr, hP]) (by rw [hlast]; exact b.ne) (by rw [← range_rev]; exact (List.reverse_perm _).nodup_iff.mpr List.nodup_range) (fun o ho => by
    obtain ⟨i, hi⟩ := List.getElem?_of_mem ho
    have hil := (List.getElem?_eq_some_iff.mp hi).1
    have hr : rows[i]? = some (rows[i]'(by omega)) := List.getElem?_eq_getElem _
    have := (hx i o _ hi hr).2 0 (by omega)
    rw [hz i _ hr] at this
    exact this.symm) (fun k hk' => hk k (List.mem_range.mp (List.mem_reverse.mp hk'))) hjm (P.reverse ++ O) (fun r hr => (List.mem_append.mp hr).imp (fun h => List.mem_reverse.mp h) id)
  rw [hnone] at mv
  rw [← hs]
  rcases Int.mul_eq_zero.mp mv.symm with z | z
  · have := sg_sq j
    rw [z] at this
    cases this
  · rw [z, Int.mul_zero]
theorem Bst.done {A n j : Nat} {orig rows : List (List Int)} {sign last : Int} (b : Bst A n j orig rows sign last) (hj : j + 1 = n) {r : List Int} (hr : rows[0]? = some r) : sign * gt r 0 = dt orig (List.range n) := by
  obtain ⟨P, O, hP, hO, hrl, hlast, hx, hs, hb⟩ := b.ex
  have hO1 : O.length = 1 := by omega
  match O, hO1 with
  | [o], _ =>
    obtain ⟨_, h2⟩ := hx 0 o r rfl hr
    have h3 := h2 0 (by omega)
    rw [← hs, h3]
    have e : P.reverse ++ [o] = (o :: P).reverse := by rw [List.reverse_cons]
    have e2 : List.range n = ((List.range n).reverse).reverse := by rw [List.reverse_reverse]
    rw [e, e2, dt_rev (P := o :: P) (cs := (List.range n).reverse) (by rw [List.length_cons, List.length_reverse, List.length_range]; omega), ← hj, range_rev]
    rfl
end Fd

namespace Fm
open Lean.Grind PySem L2 Fr Fd
/-! ### least rows made of numbers one head after another, and how great these numbers are -/
abbrev ga (r : List (Int × Int)) (j : Nat) : Int × Int := r.getD j (0, 1)
def lheadF (g : Int) (j : Nat) (r : List (Int × Int)) : List (Int × Int) := r.map fun x => timesF g x (ovrF g (1, 1) (ga r j))
def lclrF (g : Int) (j : Nat) (h r : List (Int × Int)) : List (Int × Int) := List.zipWith (plusF g) r (h.map fun x => timesF g x (minusF g (ga r j)))
theorem red_le {a : Int × Int} {d n : Int} (h : Red a) (hd : d ≠ 0) (e : a.1 * d = a.2 * n) : a.1.natAbs ≤ n.natAbs ∧ a.2.natAbs ≤ d.natAbs := by
  have h2 : a.2 ≠ 0 := by have := h.1; omega
  obtain ⟨q, hq⟩ := dvd_cop h.2 ⟨n, e⟩
  have q0 : q ≠ 0 := fun z => hd (by rw [hq, z, Int.mul_zero])
  have hn : a.1 * q = n := by
    refine Int.eq_of_mul_eq_mul_left h2 ?_
    rw [← e, hq]
    grind
  refine ⟨?_, ?_⟩
  · rw [← hn, Int.natAbs_mul]
    exact Nat.le_mul_of_pos_right _ (by omega)
  · rw [hq, Int.natAbs_mul]
    exact Nat.le_mul_of_pos_right _ (by omega)
section
variable {g : Int} {F : Type} [CommRing F]
/-- the rows by minors: P the heads' own rows, c their columns -/
structure LSz (V : GV g F) (A : Nat) (P : List (List Int)) (c : List Nat) (found left : List (List (Int × Int))) : Prop where
  lc : P.length = c.length
  det : dt P c ≠ 0
  bP : ∀ i x, (ent P i x).natAbs ≤ A
  fnd : ∀ v ∈ found, ∃ j m, c[j]? = some m ∧ ∀ x, er V v x * V.i (sg j * dt P c) = V.i (dt P (x :: c.eraseIdx j))
  lft : ∀ v ∈ left, ∃ (o : List Int) (b : Int), b ≠ 0 ∧ b.natAbs ≤ A ∧ (∀ x, (gt o x).natAbs ≤ A) ∧ ∀ x, er V v x * V.i (b * dt P c) = V.i (dt (o :: P) (x :: c))
variable {V : GV g F}
theorem sg_ne (j : Nat) : sg j ≠ 0 := fun z => by
  have := sg_sq j
  rw [z] at this
  cases this
theorem sg_one (j : Nat) : (sg j).natAbs = 1 := by
  unfold sg
  split <;> rfl
theorem red_of (hg0 : g = 0) {k : Nat} {a : Int × Int} (h : TN g k a) : Red a := by
  subst hg0
  exact h.red
theorem ei_z (hg0 : g = 0) {a b : Int} (h : V.i a = V.i b) : a = b := by
  have : V.i (a - b) = 0 := by rw [V.isub, h]; grind
  have := (V.ker _ this).1 hg0
  omega
/-- a number out of two whole ones in the field: its parts are no greater -/
theorem tn_by (hg : g = 0 ∨ Gr5 g) (hg0 : g = 0) {k : Nat} {a : Int × Int} (h : TN g k a) {d n : Int} (hd : d ≠ 0) (e : V.e a * V.i d = V.i n) : a.1.natAbs ≤ n.natAbs ∧ a.2.natAbs ≤ d.natAbs := by
  refine red_le (red_of hg0 h) hd (ei_z (V := V) hg0 ?_)
  obtain ⟨e1, n1⟩ := V.tn hg h
  rw [V.imul, V.imul, ← e1, ← e]
  grind
theorem LSz.bound (hg : g = 0 ∨ Gr5 g) (hg0 : g = 0) {A k n : Nat} {P : List (List Int)} {c : List Nat} {found left : List (List (Int × Int))} (z : LSz V A P c found left) (hc : c.length ≤ n) (hA : 1 ≤ A) :
    ∀ v ∈ found ++ left, (∀ a ∈ v, TN g k a) → ∀ a ∈ v, a.1.natAbs ≤ A * ((n + 1) * A) ^ (n + 1) ∧ a.2.natAbs ≤ A * ((n + 1) * A) ^ (n + 1) := fun v hv ht a ha => by
  obtain ⟨x, hx, rfl⟩ := List.mem_iff_getElem.mp ha
  have ta := ht _ (List.getElem_mem hx)
  have hD : ∀ (Q : List (List Int)) (cs : List Nat), Q.length = cs.length → cs.length ≤ n + 1 → (∀ i y, (ent Q i y).natAbs ≤ A) → (dt Q cs).natAbs ≤ ((n + 1) * A) ^ (n + 1) := fun Q cs h1 h2 h3 => Nat.le_trans (dt_abs cs Q h1 h3) (pow_mono h2 (Nat.mul_le_mul (show 1 ≤ n + 1 by omega) hA))
  have hB : ((n + 1) * A) ^ (n + 1) ≤ A * ((n + 1) * A) ^ (n + 1) := Nat.le_mul_of_pos_left _ hA
  rcases List.mem_append.mp hv with h | h
  · obtain ⟨j, m, hj, e⟩ := z.fnd v h
    have hjl := (List.getElem?_eq_some_iff.mp hj).1
    have e1 := e x
    rw [er_at hx] at e1
    have hl : P.length = (x :: c.eraseIdx j).length := by
      rw [List.length_cons, List.length_eraseIdx_of_lt hjl, z.lc]
      omega
    obtain ⟨b1, b2⟩ := tn_by hg hg0 ta (Int.mul_ne_zero (sg_ne j) z.det) e1
    rw [Int.natAbs_mul, sg_one, Nat.one_mul] at b2
    have d1 := hD P c z.lc (by omega) z.bP
    have d2 := hD P _ hl (by rw [← hl, z.lc]; omega) z.bP
    exact ⟨by omega, by omega⟩
  · obtain ⟨o, b, hb, hbA, ho, e⟩ := z.lft v h
    have e1 := e x
    rw [er_at hx] at e1
    obtain ⟨b1, b2⟩ := tn_by hg hg0 ta (Int.mul_ne_zero hb z.det) e1
    have d1 := hD P c z.lc (by omega) z.bP
    have d2 := hD (o :: P) (x :: c) (by rw [List.length_cons, List.length_cons, z.lc]) (by rw [List.length_cons]; omega) fun i y => by
      cases i with
      | zero => rw [ent_zero]; exact ho y
      | succ i => rw [ent_succ]; exact z.bP i y
    refine ⟨by omega, Nat.le_trans b2 ?_⟩
    rw [Int.natAbs_mul]
    exact Nat.mul_le_mul hbA d1
theorem LSz.start (hg : g = 0 ∨ Gr5 g) {A k : Nat} {t : List (List (Int × Int))} (ht : ∀ r ∈ t, ∀ a ∈ r, TN g k a) (hA : ∀ r ∈ t, (wrB r).natAbs ≤ A ∧ ∀ y ∈ wrT r, y.natAbs ≤ A) : LSz V A [] [] [] t := by
  refine ⟨rfl, by show (1 : Int) ≠ 0; decide, fun i x => ?_, fun v hv => (by cases hv), fun v hv => ⟨wrT v, wrB v, ?_, (hA v hv).1, fun x => ?_, fun x => ?_⟩⟩
  · have : ([] : List (List Int)).getD i [] = [] := by simp
    show (gt (([] : List (List Int)).getD i []) x).natAbs ≤ A
    rw [this]
    exact Nat.zero_le _
  · have := (wrB_spec fun x hx => (ht v hv x hx).pos).1
    omega
  · by_cases e : gt (wrT v) x = 0
    · rw [e]
      exact Nat.zero_le _
    · exact (hA v hv).2 _ (gt_mem e)
  · have e := (wr_fr (V := V) hg (ht v hv)).2 x
    have e1 : dt [wrT v] [x] = gt (wrT v) x := by
      show 0 + sg 0 * gt (wrT v) x * 1 = _
      show 0 + 1 * gt (wrT v) x * 1 = _
      omega
    rw [e1, e]
    show er V v x * V.i (wrB v * 1) = _
    rw [Int.mul_one]
    grind
theorem LSz.step (hg0 : g = 0) {A k : Nat} {P : List (List Int)} {c : List Nat} {found left : List (List (Int × Int))} (z : LSz V A P c found left) {v0 head : List (Int × Int)} (hv0 : v0 ∈ left) (hne : er V v0 k ≠ 0) (hh : ∀ x, er V head x * er V v0 k = er V v0 x) {f : List (Int × Int) → List (Int × Int)} (hf : ∀ r ∈ found ++ left, er V (f r) = clr k (er V head) (er V r)) :
    ∃ P' c', c'.length = c.length + 1 ∧ LSz V A P' c' (found.map f ++ [head]) (left.map f) := by
  obtain ⟨o, b, hb, hbA, ho, e0⟩ := z.lft v0 hv0
  have vD : V.i (dt P c) ≠ 0 := V.ine z.det fun h => absurd hg0 h
  have vb : V.i b ≠ 0 := V.ine hb fun h => absurd hg0 h
  have hbD : V.i (b * dt P c) ≠ 0 := V.ine (Int.mul_ne_zero hb z.det) fun h => absurd hg0 h
  have hN : V.i (dt (o :: P) (k :: c)) ≠ 0 := fun q => by
    have := e0 k
    rw [q] at this
    exact hbD (V.dom this hne)
  have hD' : dt (o :: P) (k :: c) ≠ 0 := fun q => hN (by rw [q, V.i0])
  -- the head's row by minors
  have hhead : ∀ x, er V head x * V.i (dt (o :: P) (k :: c)) = V.i (dt (o :: P) (x :: c)) := fun x => by
    rw [← e0 x, ← e0 k, ← hh x]
    grind
  refine ⟨o :: P, k :: c, rfl, ?_, hD', fun i x => ?_, fun v hv => ?_, fun v hv => ?_⟩
  · rw [List.length_cons, List.length_cons, z.lc]
  · cases i with
    | zero => rw [ent_zero]; exact ho x
    | succ i => rw [ent_succ]; exact z.bP i x
  · rcases List.mem_append.mp hv with h | h
    · obtain ⟨r, hr, rfl⟩ := List.mem_map.mp h
      obtain ⟨j, m, hj, e⟩ := z.fnd r hr
      refine ⟨j + 1, m, hj, fun x => ?_⟩
      rw [hf r (List.mem_append_left _ hr)]
      show (er V r x + -(er V r k) * er V head x) * V.i (sg (j + 1) * dt (o :: P) (k :: c)) = V.i (dt (o :: P) (x :: k :: c.eraseIdx j))
      refine V.cancel (z := V.i (dt P c)) ?_ vD
      have hs := congrArg V.i (dt_piv z.lc (h := o) (k := k) hj hD' x)
      rw [V.ineg, V.isub, V.imul, V.imul, V.imul] at hs
      have ex := e x
      have ek := e k
      rw [V.imul] at ex ek
      have hx := hhead x
      rw [sg_succ, V.imul, V.ineg]
      grind
    · rw [List.mem_singleton.mp h]
      refine ⟨0, k, rfl, fun x => ?_⟩
      show er V head x * V.i (1 * dt (o :: P) (k :: c)) = V.i (dt (o :: P) (x :: c))
      rw [Int.one_mul]
      exact hhead x
  · obtain ⟨r, hr, rfl⟩ := List.mem_map.mp hv
    obtain ⟨o1, b1, hb1, hbA1, ho1, e⟩ := z.lft r hr
    refine ⟨o1, b1, hb1, hbA1, ho1, fun x => ?_⟩
    rw [hf r (List.mem_append_right _ hr)]
    show (er V r x + -(er V r k) * er V head x) * V.i (b1 * dt (o :: P) (k :: c)) = V.i (dt (o1 :: o :: P) (x :: k :: c))
    refine V.cancel (z := V.i (dt P c)) ?_ vD
    have hs := congrArg V.i (dt_syl z.lc (o := o1) (h := o) (k := k) hD' x)
    rw [V.isub, V.imul, V.imul, V.imul] at hs
    have ex := e x
    have ek := e k
    rw [V.imul] at ex ek
    have hx := hhead x
    rw [V.imul]
    grind
/-- the law's loop in the field -/
structure Lst (V : GV g F) (k j n : Nat) (t found left : List (List (Int × Int))) (h : List Nat) : Prop where
  fr : ∀ r ∈ found, r.length = n ∧ ∀ a ∈ r, TN g k a
  lr : ∀ r ∈ left, r.length = n ∧ ∀ a ∈ r, TN g k a
  rr : Rr (found.map (er V)) h
  hd : ∀ p ∈ h, p < j
  hl : h.length ≤ j
  nul : ∀ r ∈ left, ∀ x, x < j → er V r x = 0
  sp1 : ∀ r ∈ found ++ left, InS (t.map (er V)) (er V r)
  sp2 : ∀ r ∈ t, InS ((found ++ left).map (er V)) (er V r)
theorem Lst.start {k n : Nat} {t : List (List (Int × Int))} (ht : ∀ r ∈ t, r.length = n ∧ ∀ a ∈ r, TN g k a) : Lst V k 0 n t [] t [] :=
  ⟨fun r hr => (by cases hr), ht, rr_nil, fun p hp => (by cases hp), Nat.le_refl _, fun r hr x hx => absurd hx (Nat.not_lt_zero _), fun r hr => InS.mem (List.mem_map.mpr ⟨r, hr, rfl⟩), fun r hr => InS.mem (List.mem_map.mpr ⟨r, hr, rfl⟩)⟩
theorem ga_at {r : List (Int × Int)} {j : Nat} (hj : j < r.length) : ga r j = r[j] := by
  unfold ga
  rw [List.getD_eq_getElem?_getD, List.getElem?_eq_getElem hj]
  rfl
theorem Lst.skip (hg : g = 0 ∨ Gr5 g) {k j n : Nat} {t found left : List (List (Int × Int))} {h : List Nat} (s : Lst V k j n t found left h) (hz : ∀ r ∈ left, ga r j = (0, 1)) : Lst V k (j + 1) n t found left h :=
  ⟨s.fr, s.lr, s.rr, fun p hp => Nat.lt_succ_of_lt (s.hd p hp), Nat.le_succ_of_le s.hl, fun r hr x hx => by
    by_cases e : x = j
    · subst e
      show V.e (ga r x) = 0
      rw [hz r hr]
      exact V.zero
    · exact s.nul r hr x (by omega), s.sp1, s.sp2⟩
theorem er_ga (r : List (Int × Int)) (j : Nat) : er V r j = V.e (ga r j) := rfl
theorem lhead_er (hg : g = 0 ∨ Gr5 g) {k j n : Nat} {r : List (Int × Int)} (hr : r.length = n ∧ ∀ a ∈ r, TN g k a) (hj : j < n) (hk : 4 ≤ k) (hne : ga r j ≠ (0, 1)) :
    er V r j ≠ 0 ∧ (∀ x, er V (lheadF g j r) x * er V r j = er V r x) ∧ (lheadF g j r).length = n ∧ ∀ a ∈ lheadF g j r, TN g (k + (4 + k)) a := by
  have hjl : j < r.length := by rw [hr.1]; exact hj
  have ta : TN g k (ga r j) := by rw [ga_at hjl]; exact hr.2 _ (List.getElem_mem hjl)
  have h1 : (ga r j).1 ≠ 0 := fun z => hne (V.inj hg ta (tn_zero hg) (by
    rw [V.zero]
    obtain ⟨e1, n1⟩ := V.tn hg ta
    rw [z, V.i0] at e1
    have e2 : V.i (ga r j).2 * V.e (ga r j) = 0 := by rw [← e1]; grind
    exact V.dom e2 n1))
  have ho : V.e (ovrF g (1, 1) (ga r j)) * V.e (ga r j) = 1 := by
    have := V.over hg (tn_one hg) ta h1
    rw [V.one] at this
    exact this
  have to := tn_ovr hg (tn_one hg) ta (Nat.le_refl 4) h1
  have hn : er V r j ≠ 0 := fun z => by
    rw [er_ga] at z
    rw [z] at ho
    exact V.ne (by rw [← ho]; grind)
  refine ⟨hn, fun x => ?_, by unfold lheadF; rw [List.length_map]; exact hr.1, fun a ha => ?_⟩
  · by_cases hx : x < r.length
    · have hx' : x < (lheadF g j r).length := by unfold lheadF; rw [List.length_map]; exact hx
      have e1 : (lheadF g j r)[x] = timesF g r[x] (ovrF g (1, 1) (ga r j)) := List.getElem_map ..
      rw [er_at hx', er_at hx, e1, V.times hg (hr.2 _ (List.getElem_mem hx)) to, er_ga]
      grind
    · rw [er_out (r := r) (j := x) (by omega), er_out (r := lheadF g j r) (j := x) (by unfold lheadF; rw [List.length_map]; omega)]
      grind
  · obtain ⟨x, hx, rfl⟩ := List.mem_map.mp ha
    exact tn_times hg (hr.2 x hx) to hk
theorem lclr_er (hg : g = 0 ∨ Gr5 g) {k l j n : Nat} {h r : List (Int × Int)} (hr : r.length = n ∧ ∀ a ∈ r, TN g k a) (hh : h.length = n ∧ ∀ a ∈ h, TN g l a) (hj : j < n) (hk : 4 ≤ k) (hl : 4 ≤ l) :
    er V (lclrF g j h r) = clr j (er V h) (er V r) ∧ (lclrF g j h r).length = n ∧ ∀ a ∈ lclrF g j h r, TN g (k + (l + k) + 1) a := by
  have hjl : j < r.length := by rw [hr.1]; exact hj
  have ta : TN g k (ga r j) := by rw [ga_at hjl]; exact hr.2 _ (List.getElem_mem hjl)
  have tm := tn_minus hg ta hk
  have hlen : (lclrF g j h r).length = n := by
    unfold lclrF
    rw [List.length_zipWith, List.length_map, hr.1, hh.1]
    omega
  have hget : ∀ x (hx : x < n), (lclrF g j h r)[x]'(by omega) = plusF g (r[x]'(by omega)) (timesF g (h[x]'(by omega)) (minusF g (ga r j))) := fun x hx => by
    unfold lclrF
    rw [List.getElem_zipWith, List.getElem_map]
  refine ⟨funext fun x => ?_, hlen, fun a ha => ?_⟩
  · unfold clr
    by_cases hx : x < n
    · have h1 : x < r.length := by omega
      have h2 : x < h.length := by omega
      have tr := hr.2 _ (List.getElem_mem h1)
      have th := hh.2 _ (List.getElem_mem h2)
      rw [er_at (show x < (lclrF g j h r).length by omega), hget x hx, er_at h1, er_at h2, V.plus hg tr (tn_times hg th tm hl), V.times hg th tm, V.minus hg ta, er_ga]
      grind
    · rw [er_out (show (lclrF g j h r).length ≤ x by omega), er_out (show r.length ≤ x by omega), er_out (show h.length ≤ x by omega)]
      grind
  · obtain ⟨x, hx, rfl⟩ := List.mem_iff_getElem.mp ha
    rw [hget x (by omega)]
    exact tn_plus hg (hr.2 _ (List.getElem_mem _)) (tn_times hg (hh.2 _ (List.getElem_mem _)) tm hl) hk
/-- a number of the ground by its parts -/
theorem tn_small (hg : g = 0 ∨ Gr5 g) {k l : Nat} {a : Int × Int} (h : TN g l a) (hk : 4 ≤ k) (hz : g = 0 → a.1.natAbs < 2 ^ k ∧ a.2.natAbs < 2 ^ k) : TN g k a := by
  rcases hg with e | h5
  · exact ⟨h.1, hz e⟩
  · have g0 : g ≠ 0 := by unfold Gr5 at h5; omega
    have h16 : 2 ^ 4 ≤ 2 ^ k := Nat.pow_le_pow_right (by decide) hk
    rcases h.1 with ⟨e, _⟩ | ⟨_, h1, h2, h3⟩
    · exact absurd e g0
    · refine ⟨h.1, ?_, ?_⟩
      · unfold Gr5 at h5
        have : a.1.natAbs < 16 := by omega
        omega
      · rw [h3]
        show 1 < 2 ^ k
        omega
theorem Lst.step (hg : g = 0 ∨ Gr5 g) {A k j n : Nat} {t found left : List (List (Int × Int))} {h : List Nat} (s : Lst V k j n t found left h) (hj : j < n) (hk : 4 ≤ k) (z : g = 0 → ∃ P c, c.length = h.length ∧ LSz V A P c found left) (hB : g = 0 → 1 ≤ A ∧ A * ((n + 1) * A) ^ (n + 1) < 2 ^ k) {v0 : List (Int × Int)} (hv0 : v0 ∈ left) (hne : ga v0 j ≠ (0, 1)) :
    (∀ a ∈ lheadF g j v0, TN g k a) ∧ Lst V k (j + 1) n t (found.map (lclrF g j (lheadF g j v0)) ++ [lheadF g j v0]) (left.map (lclrF g j (lheadF g j v0))) (h ++ [j]) ∧
    (g = 0 → ∃ P c, c.length = (h ++ [j]).length ∧ LSz V A P c (found.map (lclrF g j (lheadF g j v0)) ++ [lheadF g j v0]) (left.map (lclrF g j (lheadF g j v0)))) := by
  obtain ⟨hn0, hh, hhl, htH⟩ := lhead_er (V := V) hg (s.lr v0 hv0) hj hk hne
  generalize hH : lheadF g j v0 = H at *
  have all : ∀ r ∈ found ++ left, r.length = n ∧ ∀ a ∈ r, TN g k a := fun r hr => (List.mem_append.mp hr).elim (s.fr r) (s.lr r)
  have hf : ∀ r ∈ found ++ left, er V (lclrF g j H r) = clr j (er V H) (er V r) ∧ (lclrF g j H r).length = n ∧ ∀ a ∈ lclrF g j H r, TN g (k + (k + (4 + k) + k) + 1) a := fun r hr => lclr_er hg (all r hr) ⟨hhl, htH⟩ hj hk (by omega)
  have z' : g = 0 → ∃ P c, c.length = (h ++ [j]).length ∧ LSz V A P c (found.map (lclrF g j H) ++ [H]) (left.map (lclrF g j H)) := fun e => by
    obtain ⟨P, c, hc, zz⟩ := z e
    obtain ⟨P', c', hc', z2⟩ := zz.step e hv0 hn0 hh fun r hr => (hf r hr).1
    exact ⟨P', c', by rw [hc', hc, List.length_append]; rfl, z2⟩
  have big : ∀ r ∈ (found.map (lclrF g j H) ++ [H]) ++ left.map (lclrF g j H), ∀ a ∈ r, TN g (k + (k + (4 + k) + k) + 1) a := fun r hr => by
    rcases List.mem_append.mp hr with q | q
    · rcases List.mem_append.mp q with q | q
      · obtain ⟨u, hu, rfl⟩ := List.mem_map.mp q
        exact (hf u (List.mem_append_left _ hu)).2.2
      · rw [List.mem_singleton.mp q]
        exact fun a ha => (htH a ha).mono (by omega)
    · obtain ⟨u, hu, rfl⟩ := List.mem_map.mp q
      exact (hf u (List.mem_append_right _ hu)).2.2
  have sm : ∀ r ∈ (found.map (lclrF g j H) ++ [H]) ++ left.map (lclrF g j H), ∀ a ∈ r, TN g k a := fun r hr a ha => by
    refine tn_small hg (big r hr a ha) hk fun e => ?_
    obtain ⟨P, c, hc, zz⟩ := z' e
    obtain ⟨hA, hb⟩ := hB e
    have hcn : c.length ≤ n := by
      rw [hc, List.length_append]
      have := s.hl
      show h.length + 1 ≤ n
      omega
    have := zz.bound hg e hcn hA r hr (big r hr) a ha
    omega
  have hb1 : er V H j = 1 := by
    refine V.cancel (z := er V v0 j) ?_ hn0
    rw [hh j]
    grind
  have hb0 : ∀ x, x < j → er V H x = 0 := fun x hx => by
    refine V.dom (x := er V v0 j) ?_ hn0
    have := hh x
    rw [s.nul v0 hv0 x hx] at this
    rw [← this]
    grind
  have hR := s.rr.step (k := j) (b := er V H) s.hd hb1 hb0
  have hmap : (found.map (lclrF g j H) ++ [H]).map (er V) = (found.map (er V)).map (clr j (er V H)) ++ [er V H] := by
    rw [List.map_append, List.map_map, List.map_map]
    congr 1
    exact List.map_congr_left fun r hr => (hf r (List.mem_append_left _ hr)).1
  have hH1 : InS (t.map (er V)) (er V H) := by
    obtain ⟨y, hy⟩ := V.inv _ hn0
    have e : er V H = fun x => y * er V v0 x := funext fun x => by
      rw [← hh x]
      grind
    rw [e]
    exact (InS.spc _).mul y _ (s.sp1 v0 (List.mem_append_right _ hv0))
  refine ⟨fun a ha => sm H (List.mem_append_left _ (List.mem_append_right _ (List.mem_singleton.mpr rfl))) a ha, ⟨fun r hr => ⟨?_, sm r (List.mem_append_left _ hr)⟩, fun r hr => ⟨?_, sm r (List.mem_append_right _ hr)⟩, by rw [hmap]; exact hR, fun p hp => ?_, ?_, fun r hr x hx => ?_, fun r hr => ?_, fun r hr => ?_⟩, z'⟩
  · rcases List.mem_append.mp hr with q | q
    · obtain ⟨u, hu, rfl⟩ := List.mem_map.mp q
      exact (hf u (List.mem_append_left _ hu)).2.1
    · rw [List.mem_singleton.mp q]
      exact hhl
  · obtain ⟨u, hu, rfl⟩ := List.mem_map.mp hr
    exact (hf u (List.mem_append_right _ hu)).2.1
  · rcases List.mem_append.mp hp with q | q
    · exact Nat.lt_succ_of_lt (s.hd p q)
    · rw [List.mem_singleton.mp q]
      exact Nat.lt_succ_self _
  · rw [List.length_append]
    have := s.hl
    show h.length + 1 ≤ j + 1
    omega
  · obtain ⟨u, hu, rfl⟩ := List.mem_map.mp hr
    rw [(hf u (List.mem_append_right _ hu)).1]
    by_cases e : x = j
    · subst e
      exact clr_at hb1
    · rw [clr_nul (hb0 x (by omega))]
      exact s.nul u hu x (by omega)
  · rcases List.mem_append.mp hr with q | q
    · rcases List.mem_append.mp q with q | q
      · obtain ⟨u, hu, rfl⟩ := List.mem_map.mp q
        rw [(hf u (List.mem_append_left _ hu)).1]
        exact clr_span (L := []) hH1 (s.sp1 u (List.mem_append_left _ hu))
      · rw [List.mem_singleton.mp q]
        exact hH1
    · obtain ⟨u, hu, rfl⟩ := List.mem_map.mp q
      rw [(hf u (List.mem_append_right _ hu)).1]
      exact clr_span (L := []) hH1 (s.sp1 u (List.mem_append_right _ hu))
  · refine (s.sp2 r hr).trans fun v hv => ?_
    obtain ⟨u, hu, rfl⟩ := List.mem_map.mp hv
    have hHm : InS (((found.map (lclrF g j H) ++ [H]) ++ left.map (lclrF g j H)).map (er V)) (er V H) := InS.mem (List.mem_map.mpr ⟨H, List.mem_append_left _ (List.mem_append_right _ (List.mem_singleton.mpr rfl)), rfl⟩)
    refine clr_back (k := j) hHm ?_
    rw [← (hf u hu).1]
    refine InS.mem (List.mem_map.mpr ⟨lclrF g j H u, ?_, rfl⟩)
    rcases List.mem_append.mp hu with q | q
    · exact List.mem_append_left _ (List.mem_append_left _ (List.mem_map.mpr ⟨u, q, rfl⟩))
    · exact List.mem_append_right _ (List.mem_map.mpr ⟨u, q, rfl⟩)
theorem Lst.done {k n : Nat} {t found left : List (List (Int × Int))} {h : List Nat} (s : Lst V k n n t found left h) : LeastR V n k t found := by
  refine ⟨s.fr, ⟨h, s.rr, s.hd⟩, fun r hr => s.sp1 r (List.mem_append_left _ hr), fun r hr => ?_⟩
  have h1 := s.sp2 r hr
  rw [List.map_append] at h1
  refine ins_nought h1 fun u hu => ?_
  obtain ⟨v, hv, rfl⟩ := List.mem_map.mp hu
  funext x
  by_cases hx : x < n
  · exact s.nul v hv x hx
  · exact er_out (by rw [(s.lr v hv).1]; omega)
end
end Fm

namespace Fm
open Lean.Grind PySem L2 Fr Fd
/-! ### rows beside ones; nought rows -/
def besF (t : List (List (Int × Int))) : List (List (Int × Int)) := List.zipWith (· ++ ·) t (onesF t.length)
section
variable {g : Int} {F : Type} [CommRing F]
/-- rows that are least ones, of numbers below 2^k -/
def LeastS (V : GV g F) (n k : Nat) (T : List (List (Int × Int))) : Prop := (∀ r ∈ T, r.length = n ∧ ∀ a ∈ r, TN g k a) ∧ ∃ h, Rr (T.map (er V)) h ∧ ∀ p ∈ h, p < n
theorem LeastR.ls {V : GV g F} {n k : Nat} {t T : List (List (Int × Int))} (h : LeastR V n k t T) : LeastS V n k T := ⟨h.row, h.rr⟩
/-- the same, told by the numbers alone -/
structure LeastN (n : Nat) (T : List (List (Int × Int))) (h : List Nat) : Prop where
  len : T.length = h.length
  row : ∀ r ∈ T, r.length = n
  inc : ∀ (i k p q : Nat), h[i]? = some p → h[k]? = some q → i < k → p < q
  lt : ∀ p ∈ h, p < n
  one : ∀ (i : Nat) (a : List (Int × Int)) (p : Nat), T[i]? = some a → h[i]? = some p → ga a p = (1, 1)
  nul : ∀ (i k : Nat) (a : List (Int × Int)) (p : Nat), T[i]? = some a → h[k]? = some p → i ≠ k → ga a p = (0, 1)
  ahead : ∀ (i : Nat) (a : List (Int × Int)) (p j : Nat), T[i]? = some a → h[i]? = some p → j < p → ga a j = (0, 1)
variable {V : GV g F}
theorem ga_tn (hg : g = 0 ∨ Gr5 g) {n k : Nat} {r : List (Int × Int)} (hr : ∀ a ∈ r, TN g k a) (hk : 4 ≤ k) (j : Nat) : TN g k (ga r j) := by
  by_cases hj : j < r.length
  · rw [ga_at hj]
    exact hr _ (List.getElem_mem hj)
  · have : ga r j = (0, 1) := by
      unfold ga
      rw [List.getD_eq_getElem?_getD, List.getElem?_eq_none (by omega)]
      rfl
    rw [this]
    exact (tn_zero hg).mono hk
theorem LeastS.num (hg : g = 0 ∨ Gr5 g) {n k : Nat} {T : List (List (Int × Int))} (h : LeastS V n k T) (hk : 4 ≤ k) : ∃ h, LeastN n T h := by
  obtain ⟨hrow, h, R, hlt⟩ := h
  have look : ∀ (i : Nat) (a : List (Int × Int)), T[i]? = some a → (T.map (er V))[i]? = some (er V a) ∧ a ∈ T := fun i a e => ⟨by rw [List.getElem?_map, e]; rfl, List.mem_of_getElem? e⟩
  refine ⟨h, by have := R.len; rw [List.length_map] at this; exact this, fun r hr => (hrow r hr).1, R.inc, hlt, fun i a p ha hp => ?_, fun i q a p ha hp hne => ?_, fun i a p j ha hp hj => ?_⟩
  · obtain ⟨h1, h2⟩ := look i a ha
    refine V.inj hg (ga_tn hg (n := n) (hrow a h2).2 hk p) (tn_one hg) ?_
    rw [V.one]
    exact R.one i _ p h1 hp
  · obtain ⟨h1, h2⟩ := look i a ha
    refine V.inj hg (ga_tn hg (n := n) (hrow a h2).2 hk p) (tn_zero hg) ?_
    rw [V.zero]
    exact R.nul i q _ p h1 hp hne
  · obtain ⟨h1, h2⟩ := look i a ha
    refine V.inj hg (ga_tn hg (n := n) (hrow a h2).2 hk j) (tn_zero hg) ?_
    rw [V.zero]
    exact R.ahead i _ p j h1 hp hj
theorem ones_get {m i : Nat} (hi : i < m) : (onesF m)[i]? = some ((List.range m).map fun j => (if i = j then 1 else 0, 1)) := by
  unfold onesF
  rw [List.getElem?_map, List.getElem?_range hi]
  rfl
theorem ga_ones {m i x : Nat} (hx : x < m) : ga ((List.range m).map fun j => ((if i = j then 1 else 0 : Int), (1 : Int))) x = (if i = x then 1 else 0, 1) := by
  unfold ga
  rw [List.getD_eq_getElem?_getD, List.getElem?_map, List.getElem?_range hx]
  rfl
theorem er_ones {m i x : Nat} (hx : x < m) : er V ((List.range m).map fun j => ((if i = j then 1 else 0 : Int), (1 : Int))) x = if i = x then 1 else 0 := by
  rw [er_ga, ga_ones hx]
  split
  · exact V.one
  · exact V.zero
/-- a row's first n places -/
def rst (n : Nat) (u : Row F) : Row F := fun x => if x < n then u x else 0
end
end Fm

namespace Fm
open PySem PySem.Spec PyProof.Rows L2 Fd
/-! ### lists of whole numbers, lists of these -/
def IL (H : Hp) (v : V) (r : List Int) : Prop := ∃ p, v = .ref p ∧ H p = some (.lst (r.map V.int))
theorem IL.sm {H H' : Hp} {v : V} {r : List Int} (h : IL H v r) (s : Same H H') : IL H' v r := by
  obtain ⟨p, e, hp⟩ := h
  exact ⟨p, e, s _ _ hp⟩
def ILs (H : Hp) (v : V) (rows : List (List Int)) : Prop := ∃ p xs, v = .ref p ∧ H p = some (.lst xs) ∧ Acc IL H xs rows rows.length
theorem ILs.sm {H H' : Hp} {v : V} {rows : List (List Int)} (h : ILs H v rows) (s : Same H H') : ILs H' v rows := by
  obtain ⟨p, xs, e, hp, ha⟩ := h
  exact ⟨p, xs, e, s _ _ hp, ha.mono fun x a h => h.sm s⟩
def ILn (D : Addr) (H : Hp) (v : V) (r : List Int) : Prop := ∃ p, v = .ref p ∧ p ≠ D ∧ H p = some (.lst (r.map V.int))
theorem ILn.sm {D : Addr} {H H' : Hp} {v : V} {r : List Int} (h : ILn D H v r) (s : Same H H') : ILn D H' v r := by
  obtain ⟨p, e, hn, hp⟩ := h
  exact ⟨p, e, hn, s _ _ hp⟩
theorem ILn.upd {D : Addr} {H : Hp} {v : V} {r : List Int} {o : HO} (h : ILn D H v r) : ILn D (L2.upd H D o) v r := by
  obtain ⟨p, e, hn, hp⟩ := h
  exact ⟨p, e, hn, by rw [upd_ne hn]; exact hp⟩
theorem ILn.il {D : Addr} {H : Hp} {v : V} {r : List Int} (h : ILn D H v r) : IL H v r := by
  obtain ⟨p, e, hn, hp⟩ := h
  exact ⟨p, e, hp⟩
theorem cut_take (xs : List V) (k : Nat) : cutV xs none (some (k : Int)) = xs.take k := by
  unfold cutV
  rw [HT.sIx_nat, HT.sIx_none, List.drop_zero, Nat.sub_zero]
  by_cases h : k ≤ xs.length
  · rw [Nat.min_eq_left h]
  · rw [Nat.min_eq_right (by omega), List.take_length, List.take_of_length_le (by omega)]
theorem cut_drop (xs : List V) (k : Nat) : cutV xs (some (k : Int)) none = xs.drop k := by
  unfold cutV
  rw [HT.sIx_nat, HT.sIx_none]
  by_cases h : k ≤ xs.length
  · rw [Nat.min_eq_left h, List.take_of_length_le (by rw [List.length_drop]; exact Nat.le_refl _)]
  · rw [Nat.min_eq_right (by omega), List.drop_length, List.drop_of_length_le (by omega), List.take_nil]
theorem w_slL {K : PySem.W.Frag} {H : Hp} {Q : VK} {p : Addr} {xs : List V} {lo hi : Option Int} (h : H p = some (.lst xs)) (q : ∀ q' H', H q' = none → Same H H' → H' q' = some (.lst (cutV xs lo hi)) → Q (.ref q') H') : rSlL K (.ref p) lo hi H Q := ⟨p, xs, rfl, SqL.of h, fun l hl => q l _ hl (same_upd hl) upd_same⟩
def tTruth (K : PySem.W.Frag) (ta : TE) : TT := fun σ H Q => ta σ H fun x H' => ∃ k, TruV K x H' k ∧ Q k H'
theorem w_tru {K : PySem.W.Frag} {ta : TE} {σ : L2.St} {H : Hp} {Q : Bool → Hp → Prop} (h : ta σ H fun x H' => ∃ k, TruV K x H' k ∧ Q k H') : tTruth K ta σ H Q := h
theorem acc_take {α : Type} {P : Hp → V → α → Prop} {H : Hp} {xs : List V} {as : List α} {n k : Nat} (h : Acc P H xs as n) (hl : n = as.length) : Acc P H (xs.take k) (as.take k) (as.take k).length := by
  refine ⟨by rw [List.length_take, List.length_take, h.1, hl], fun j x a h1 h2 => ?_⟩
  rw [List.getElem?_take] at h1 h2
  by_cases e : j < k
  · rw [if_pos e] at h1 h2
    exact h.2 j x a h1 h2
  · rw [if_neg e] at h1
    cases h1
theorem acc_drop {α : Type} {P : Hp → V → α → Prop} {H : Hp} {xs : List V} {as : List α} {n k : Nat} (h : Acc P H xs as n) (hl : n = as.length) : Acc P H (xs.drop k) (as.drop k) (as.drop k).length := by
  refine ⟨by rw [List.length_drop, List.length_drop, h.1, hl], fun j x a h1 h2 => ?_⟩
  rw [List.getElem?_drop] at h1 h2
  exact h.2 _ x a h1 h2
theorem acc_cat {α : Type} {P : Hp → V → α → Prop} {H : Hp} {xs ys : List V} {as bs : List α} (h : Acc P H xs as as.length) (h2 : Acc P H ys bs bs.length) : Acc P H (xs ++ ys) (as ++ bs) (as ++ bs).length := by
  refine ⟨by rw [List.length_append, List.length_append, h.1, h2.1], fun j x a e1 e2 => ?_⟩
  by_cases e : j < as.length
  · rw [List.getElem?_append_left (by rw [h.1]; exact e)] at e1
    rw [List.getElem?_append_left e] at e2
    exact h.2 j x a e1 e2
  · rw [List.getElem?_append_right (by rw [h.1]; omega), h.1] at e1
    rw [List.getElem?_append_right (by omega)] at e2
    exact h2.2 _ x a e1 e2
theorem acc_one {α : Type} {P : Hp → V → α → Prop} {H : Hp} {v : V} {a : α} (h : P H v a) : Acc P H [v] [a] [a].length := ⟨rfl, fun j x b e1 e2 => by
  cases j with
  | zero => cases e1; cases e2; exact h
  | succ j => simp at e1⟩
theorem erase_cut {α : Type} (xs : List α) (k : Nat) : xs.take k ++ xs.drop (k + 1) = xs.eraseIdx k := (List.eraseIdx_eq_take_drop_succ ..).symm
theorem gt_int {r : List Int} {j : Nat} (hj : j < r.length) : atI (r.map V.int) (j : Int) = some (.int (gt r j)) := by
  refine atI_nat ?_
  rw [List.getElem?_map, List.getElem?_eq_getElem hj]
  unfold gt
  rw [List.getD_eq_getElem?_getD, List.getElem?_eq_getElem hj]
  rfl
theorem gcdL_take {r : List Int} {i : Nat} (hi : i < r.length) : gcdL (r.take (i + 1)) = (Int.gcd (gcdL (r.take i)) r[i] : Int) := by
  unfold gcdL
  rw [List.take_add_one, List.getElem?_eq_getElem hi, Option.toList_some, List.foldl_append]
  rfl
theorem gcdL_le {r : List Int} {b : Nat} (h : gcdL r ≠ 0) (hb : ∀ x ∈ r, x.natAbs < 2 ^ b) : (gcdL r).natAbs < 2 ^ b := by
  have : ∃ x ∈ r, x ≠ 0 := Classical.byContradiction fun z => h (by
    have h0 : ∀ x ∈ r, (0 : Int) ∣ x := fun x hx => by
      have : x = 0 := Classical.byContradiction fun y => z ⟨x, hx, y⟩
      rw [this]
      exact Int.dvd_refl 0
    exact Int.zero_dvd.mp (gcdL_dvd.2 0 h0))
  obtain ⟨x, hx, hne⟩ := this
  obtain ⟨q, hq⟩ := gcdL_dvd.1 x hx
  have hq0 : q ≠ 0 := fun z => hne (by rw [hq, z, Int.mul_zero])
  refine Nat.lt_of_le_of_lt ?_ (hb x hx)
  rw [hq, Int.natAbs_mul]
  exact Nat.le_mul_of_pos_right _ (by omega)
end Fm
namespace Fm
open PySem PySem.Spec PyProof.Rows L2
theorem acc_imp {α : Type} {P P' : Hp → V → α → Prop} {H H' : Hp} {ys : List V} {as : List α} {i : Nat} (h : Acc P H ys as i) (f : ∀ x a, P H x a → P' H' x a) : Acc P' H' ys as i := ⟨h.1, fun j x a h1 h2 => f x a (h.2 j x a h1 h2)⟩
end Fm
namespace Fm
/-- what lowest wants -/
theorem lowP {g u d : Int} {k : Nat} (hg : g = 0 ∨ Gr5 g) (hd : d ≠ 0) (h1 : g ≠ 0 → d.fmod g ≠ 0) (hu : u.natAbs < 2 ^ k) (hb : d.natAbs < 2 ^ k) (hk : k ≤ 8500) : (g = 0 ∧ d ≠ 0 ∧ d.natAbs < 2 ^ 8500) ∨ (3 ≤ g ∧ u.natAbs < 2 ^ 50000 ∧ ∃ k : Int, 1 ≤ k ∧ k ≤ 13 ∧ (k * d).fmod g = 1) := by
  rcases hg with e | h5
  · exact .inl ⟨e, hd, Nat.lt_of_lt_of_le hb (Nat.pow_le_pow_right (by decide) hk)⟩
  · have g3 : 3 ≤ g := by unfold Gr5 at h5; omega
    exact .inr ⟨g3, Nat.lt_of_lt_of_le hu (Nat.pow_le_pow_right (by decide) (by omega)), inv_of h5 (h1 (by omega))⟩
end Fm
namespace Fm
open Lean.Grind Fr Fd
theorem plain_abs {r : List Int} {A : Nat} (h : ∀ y ∈ r, y.natAbs ≤ A) (x : Nat) : (gt (plainF 0 r) x).natAbs ≤ A := by
  obtain ⟨s, hs, e, _⟩ := plain_zero (r := r)
  have h1 : (gt r x).natAbs ≤ A := by
    by_cases z : gt r x = 0
    · rw [z]; exact Nat.zero_le _
    · exact h _ (gt_mem z)
  have h2 := congrArg Int.natAbs (e x)
  rw [Int.natAbs_mul] at h2
  refine Nat.le_trans ?_ h1
  rw [← h2]
  exact Nat.le_mul_of_pos_left _ (by omega)
end Fm

namespace L2
open PySem PySem.Spec PyProof.Rows
def tLenSetI (K : PySem.W.Frag) (ta : TE) : TE := fun σ H Q => ta σ H fun x H1 => ∃ (l : Addr) (ns : List Int), x = .ref l ∧ SqL K H1 l (ns.map V.int) ∧ ns.Nodup ∧ ns.length ≤ 1000 ∧ Q (.int (ns.length : Int)) H1
section
variable {X : Cx}
/-- a method's call where the written part is told by K -/
theorem pe_bmK {K : PySem.W.Frag} {T : String} {name : Str} {id : String} {r : V → List V → Hp → VK → Prop} {o e : Expr} {es : List Expr} {to : TE} {t : TA} {apos cpos : Pos} (hK : X.K = K) (pa : PlainAttrs T) (slot : Slot T name id) (hty : typeOf (.builtin id) = pure (.type "method_descriptor")) (hm : MtR X id r) (ho : PE X o to) (ha : PA X (e :: es) t)
    (hbase : attributeBase o name X.env (eval o X.env) = eval o X.env := by rfl)
    (hfew : ((backTo cpos (starEach (e :: es) X.env)).all (fun x => !x.1) && (backToKw cpos (keywordEach [] X.env)).all (fun x => x.1.isSome)
      && decide ((e :: es).length + ([] : List Keyword).length + (if ([] : List Keyword).isEmpty then 0 else 1) < 30)) = true := by rfl)
    (hline : (apos.endLine == cpos.line) = true := by rfl) (hs : starEach (e :: es) X.env = (false, eval e X.env) :: starEach es X.env := by rfl) (hplain : (backTo cpos (starEach es X.env)).any (·.1) = false := by rfl) :
    PE X (.Call (.Attribute o name apos) (e :: es) [] cpos) (tBM K T r to t) := by
  subst hK
  exact pe_bm pa slot hty hm ho ha hbase hfew hline hs hplain
end
end L2
namespace Fm
open L2
theorem w_lenSetI {K : PySem.W.Frag} {ta : TE} {σ : L2.St} {H : Hp} {Q : VK} (h : ta σ H fun x H1 => ∃ (l : PySem.Addr) (ns : List Int), x = .ref l ∧ SqL K H1 l (ns.map V.int) ∧ ns.Nodup ∧ ns.length ≤ 1000 ∧ Q (.int (ns.length : Int)) H1) : tLenSetI K ta σ H Q := h
end Fm

namespace Fm
open Lean.Grind PySem PySem.Spec PyProof.Rows L2 Fr Fd
/-! ### words for the law of least rows -/
theorem w_eqTab {K : PySem.W.Frag} {H : Hp} {Q : VK} {v v' : V} {t t' : List (List (Int × Int))} (h1 : TabV H v t) (h2 : TabV H v' t') (e : t = t') (q : Q (.bl true) H) : rEqD K v v' H Q := by
  subst e
  have l := lay_row t
  have c : PyData.canLay0 (.tuple (t.map rowD)) = true := by rw [PyData.canLay0]; exact l.1
  have d : PyData.depth (.tuple (t.map rowD)) ≤ 64 := by rw [PyData.depth]; have := l.2; omega
  refine ⟨_, _, TabV.dp h1, TabV.dp h2, shaped_of c d, shaped_of c d, ?_⟩
  rw [SeqAt.eqv_refl _ c]
  exact q
theorem sqv_acc {α : Type} {P : Hp → V → α → Prop} {H : Hp} {v : V} {as : List α} (h : SqV P H v as) : ∃ p xs, v = .ref p ∧ H p = some (.tup xs) ∧ xs.length = as.length ∧ Acc P H xs as as.length := by
  obtain ⟨p, xs, e, hp, hl, hx⟩ := h
  exact ⟨p, xs, e, hp, hl, hl, hx⟩
theorem acc_sqv {α : Type} {P : Hp → V → α → Prop} {H : Hp} {p : Addr} {xs : List V} {as : List α} (hp : H p = some (.tup xs)) (h : Acc P H xs as as.length) : SqV P H (.ref p) as := ⟨p, xs, rfl, hp, h.1, h.2⟩
def nghtR (r : List (Int × Int)) : Bool := r.all fun a => decide (a.1 = 0)
theorem e_zero {g : Int} {F : Type} [CommRing F] {V : GV g F} (hg : g = 0 ∨ Gr5 g) {k : Nat} {a : Int × Int} (h : TN g k a) : V.e a = 0 ↔ a.1 = 0 := by
  obtain ⟨e1, n1⟩ := V.tn hg h
  constructor
  · intro z
    have : a = (0, 1) := V.inj hg h (tn_zero hg) (by rw [z, V.zero])
    rw [this]
  · intro z
    rw [z, V.i0] at e1
    refine V.dom (x := V.i a.2) ?_ n1
    rw [← e1]
    grind
/-! drawn numbers -/
def AA : Nat := 82575360
theorem w_enum {K : PySem.W.Frag} {ta : TA} {σ : L2.St} {H : Hp} {R : It → Hp → Prop} (h : ta σ H fun vs H1 => ∃ a xs, vs = [.ref a] ∧ SqL K H1 a xs ∧ R (Ite K a) H1) : iEnum K ta σ H R := h

theorem numV_one {H : Hp} {v : V} {a c : Int × Int} (h1 : NumV H v a) (h2 : NumV H v c) : a = c := by
  obtain ⟨p, rfl, hp⟩ := h1
  obtain ⟨p', e, hp'⟩ := h2
  cases e
  have e := HO.tup.inj (Option.some.inj (hp.symm.trans hp'))
  have e1 : V.int a.1 = V.int c.1 := (List.cons.inj e).1
  have e2 : V.int a.2 = V.int c.2 := (List.cons.inj (List.cons.inj e).2).1
  exact Prod.ext (V.int.inj e1) (V.int.inj e2)
theorem rowV_uniq {H : Hp} {v : V} {r s : List (Int × Int)} (h1 : RowV H v r) (h2 : RowV H v s) : r = s := by
  obtain ⟨p, xs, rfl, hp, hl, hx⟩ := h1
  obtain ⟨p', xs', e, hp', hl', hx'⟩ := h2
  cases e
  cases HO.tup.inj (Option.some.inj (hp.symm.trans hp'))
  refine List.ext_getElem (by omega) fun i i1 i2 => ?_
  have gx : xs[i]? = some (xs[i]'(by omega)) := List.getElem?_eq_getElem _
  exact numV_one (hx i _ _ gx (List.getElem?_eq_getElem i1)) (hx' i _ _ gx (List.getElem?_eq_getElem i2))
end Fm

namespace L2
open PySem PySem.Spec PyProof.Rows
/-- n *= e -/
theorem ip_mulW {X : Cx} : PIp X .Mult (fun x y H Q => ∃ i j, x = .int i ∧ y = .int j ∧ CMulW i j ∧ Q (.int (i * j)) H) := by
  intro pins s σ H x y v u Q I r1 r2 h
  obtain ⟨i, j, e1, e2, hc, q⟩ := h
  subst e1; subst e2
  obtain ⟨t, rfl⟩ := r1
  obtain ⟨t', rfl⟩ := r2
  exact imul_int ⟨.int _, H, I.tok _, ⟨_, rfl⟩, q⟩ hc.ok
end L2
namespace Fr
open Lean.Grind
variable {F : Type} [CommRing F]
end Fr
namespace Fm
open Lean.Grind PySem L2 Fr Fd
variable {g : Int} {F : Type} [CommRing F] {V : GV g F}
theorem i_SF (f : Nat → Int) : ∀ n, V.i (S f n) = SF (fun k => V.i (f k)) n
  | 0 => V.i0
  | n + 1 => by
    show V.i (S f n + f n) = SF (fun k => V.i (f k)) n + V.i (f n)
    rw [V.iadd, i_SF f n]
theorem i_sg (k : Nat) : V.i (sg k) = sF k := by
  unfold sg sF
  split
  · exact V.i1
  · rw [V.ineg, V.i1]
/-- whole determinants in the field -/
theorem dt_fr : ∀ (cs : List Nat) (P : List (List Int)), V.i (dt P cs) = dC (P.map (fr V)) cs
  | [], _ => V.i1
  | c :: cs, P => by
    show V.i (S (fun i => sg i * ent P i c * dt (P.eraseIdx i) cs) P.length) = SF (fun i => sF i * ((P.map (fr V)).getD i zr) c * dC ((P.map (fr V)).eraseIdx i) cs) (P.map (fr V)).length
    rw [i_SF, List.length_map]
    refine SF_congr fun i hi => ?_
    have e1 : (P.eraseIdx i).map (fr V) = (P.map (fr V)).eraseIdx i := by rw [List.eraseIdx_eq_take_drop_succ, List.eraseIdx_eq_take_drop_succ, List.map_append, List.map_take, List.map_drop]
    have q1 : P.getD i [] = P[i] := by rw [List.getD_eq_getElem?_getD, List.getElem?_eq_getElem hi]; rfl
    have q2 : (P.map (fr V)).getD i zr = fr V P[i] := by rw [List.getD_eq_getElem?_getD, List.getElem?_map, List.getElem?_eq_getElem hi]; rfl
    have e2 : V.i (ent P i c) = ((P.map (fr V)).getD i zr) c := by
      unfold ent
      rw [q1, q2]
      rfl
    rw [V.imul, V.imul, i_sg, e2, dt_fr cs (P.eraseIdx i), e1]
/-- the bottoms of rows, one after another -/
def prB (t : List (List (Int × Int))) : Int := t.foldl (fun b r => b * wrB r) 1
theorem prB_go : ∀ (t : List (List (Int × Int))) (b : Int), t.foldl (fun b r => b * wrB r) b = b * prB t
  | [], b => (Int.mul_one b).symm
  | r :: t, b => by
    show t.foldl (fun b r => b * wrB r) (b * wrB r) = b * t.foldl (fun b r => b * wrB r) (1 * wrB r)
    rw [prB_go t (b * wrB r), prB_go t (1 * wrB r)]
    grind
theorem prB_cons (r : List (Int × Int)) (t : List (List (Int × Int))) : prB (r :: t) = wrB r * prB t := by
  show t.foldl (fun b r => b * wrB r) (1 * wrB r) = _
  rw [prB_go]
  grind
theorem prB_take {t : List (List (Int × Int))} {i : Nat} {r : List (Int × Int)} (h : t[i]? = some r) : prB (t.take (i + 1)) = prB (t.take i) * wrB r := by
  unfold prB
  rw [List.take_add_one, h, Option.toList_some, List.foldl_append]
  rfl
theorem prB_ne {t : List (List (Int × Int))} (h : ∀ r ∈ t, ∀ a ∈ r, 0 < a.2) : 0 < prB t := by
  induction t with
  | nil => decide
  | cons r t ih =>
    rw [prB_cons]
    exact Int.mul_pos (wrB_spec (h r List.mem_cons_self)).1 (ih fun s hs => h s (List.mem_cons_of_mem _ hs))
theorem prB_le {A : Nat} {t : List (List (Int × Int))} (h : ∀ r ∈ t, (wrB r).natAbs ≤ A) : (prB t).natAbs ≤ A ^ t.length := by
  induction t with
  | nil => exact Nat.le_refl 1
  | cons r t ih =>
    rw [prB_cons, Int.natAbs_mul, List.length_cons, Nat.pow_succ, Nat.mul_comm (A ^ t.length)]
    exact Nat.mul_le_mul (h r List.mem_cons_self) (ih fun s hs => h s (List.mem_cons_of_mem _ hs))
/-- the determinant of a table by its rows as whole numbers -/
theorem dt_wr (hg : g = 0 ∨ Gr5 g) {k n : Nat} {t : List (List (Int × Int))} (hl : t.length = n) (ht : ∀ r ∈ t, ∀ a ∈ r, TN g k a) : V.i (dt (t.map wrT) (List.range n)) = V.i (prB t) * dC (t.map (er V)) (List.range n) ∧ V.i (prB t) ≠ 0 := by
  have h1 : dC ((t.map wrT).map (fr V)) (List.range n) = V.i (prB t) * dC (t.map (er V)) (List.range n) := by
    have key : ∀ (t : List (List (Int × Int))) (pre : List (Row F)), (∀ r ∈ t, ∀ a ∈ r, TN g k a) → pre.length + t.length = n → dC (pre ++ (t.map wrT).map (fr V)) (List.range n) = V.i (prB t) * dC (pre ++ t.map (er V)) (List.range n) := fun t => by
      induction t with
      | nil =>
        intro pre _ _
        show dC (pre ++ []) _ = V.i 1 * dC (pre ++ []) _
        rw [V.i1]
        grind
      | cons r t ih =>
        intro pre ht hl
        rw [List.length_cons] at hl
        have e := (wr_fr (V := V) hg (ht r List.mem_cons_self)).2
        have er' : fr V (wrT r) = fun j => V.i (wrB r) * er V r j := funext e
        have a := dC_alt (List.range n) (F := F)
        have h2 := a.mul pre (V.i (wrB r)) (er V r) ((t.map wrT).map (fr V)) (by rw [List.length_map, List.length_map, List.length_range]; omega)
        have h3 := ih (pre ++ [er V r]) (fun s hs => ht s (List.mem_cons_of_mem _ hs)) (by rw [List.length_append]; show pre.length + 1 + t.length = n; omega)
        simp only [List.append_assoc, List.singleton_append] at h3
        show dC (pre ++ fr V (wrT r) :: (t.map wrT).map (fr V)) _ = V.i (prB (r :: t)) * dC (pre ++ er V r :: t.map (er V)) _
        rw [er', prB_cons, V.imul]
        rw [h2, h3]
        grind
    exact key t [] ht (by rw [List.length_nil]; omega)
  refine ⟨by rw [dt_fr, h1], ?_⟩
  clear h1 hl
  induction t with
  | nil =>
    show V.i 1 ≠ 0
    rw [V.i1]
    exact V.ne
  | cons r t ih =>
    rw [prB_cons, V.imul]
    exact fun z => ih (fun s hs => ht s (List.mem_cons_of_mem _ hs)) (V.dom z (wr_fr (V := V) hg (ht r List.mem_cons_self)).1)
end Fm

namespace Fm
open Lean.Grind PySem L2 Fr Fd
/-! ### how great fractions are: by one bottom for all -/
/-- the fraction a is a whole number, no greater than M, over D -/
def Zd (D : Int) (M : Nat) (a : Int × Int) : Prop := ∃ z : Int, gvQ.e a * gvQ.i D = gvQ.i z ∧ z.natAbs ≤ M
/-- a number of the ground, of that size -/
def TZ (g D : Int) (M : Nat) (a : Int × Int) : Prop := (∃ l, 4 ≤ l ∧ TN g l a) ∧ (g = 0 → Zd D M a)
def PBe (a : Int × Int) : Prop := a.1.natAbs < 2 ^ 3900 ∧ a.2.natAbs < 2 ^ 3900 ∧ a.2 ≠ 0
theorem TN.be {g : Int} {k : Nat} {a : Int × Int} (h : TN g k a) (hk : k ≤ 3900) : PBe a := ⟨(h.mono hk).2.1, (h.mono hk).2.2, by have := h.pos; omega⟩
theorem TZ.tn {g D : Int} {M k : Nat} {a : Int × Int} (hg : g = 0 ∨ Gr5 g) (h : TZ g D M a) (hk : 4 ≤ k) (h0 : D ≠ 0) (hD : D.natAbs < 2 ^ k) (hM : M < 2 ^ k) : TN g k a := by
  obtain ⟨⟨l, _, hl⟩, hz⟩ := h
  refine tn_small hg hl hk fun e => ?_
  obtain ⟨z, ez, hzM⟩ := hz e
  subst e
  obtain ⟨b1, b2⟩ := tn_by (V := gvQ) (.inl rfl) rfl hl h0 ez
  omega
theorem TZ.mono {g D : Int} {M N : Nat} {a : Int × Int} (h : TZ g D M a) (hN : M ≤ N) : TZ g D N a := ⟨h.1, fun e => by
  obtain ⟨z, ez, hz⟩ := h.2 e
  exact ⟨z, ez, Nat.le_trans hz hN⟩⟩
theorem TZ.wide {g D : Int} {M : Nat} {a : Int × Int} (h : TZ g D M a) (c : Int) : TZ g (D * c) (M * c.natAbs) a := ⟨h.1, fun e => by
  obtain ⟨z, ez, hz⟩ := h.2 e
  refine ⟨z * c, ?_, by rw [Int.natAbs_mul]; exact Nat.mul_le_mul_right _ hz⟩
  rw [gvQ.imul, gvQ.imul, ← ez]
  grind⟩
theorem TZ.plus {g D : Int} {M N : Nat} {a c : Int × Int} (hg : g = 0 ∨ Gr5 g) (ha : TZ g D M a) (hc : TZ g D N c) : TZ g D (M + N) (plusF g a c) := by
  obtain ⟨⟨l, h4, hl⟩, hz⟩ := ha
  obtain ⟨⟨m, h5, hm⟩, hw⟩ := hc
  refine ⟨⟨_, by omega, tn_plus hg hl hm h4⟩, fun e => ?_⟩
  subst e
  obtain ⟨z, ez, hzM⟩ := hz rfl
  obtain ⟨y, ey, hyN⟩ := hw rfl
  refine ⟨z + y, ?_, by omega⟩
  rw [gvQ.plus (.inl rfl) hl hm, gvQ.iadd, ← ez, ← ey]
  grind
theorem TZ.times {g D D' : Int} {M N : Nat} {a c : Int × Int} (hg : g = 0 ∨ Gr5 g) (ha : TZ g D M a) (hc : TZ g D' N c) : TZ g (D * D') (M * N) (timesF g a c) := by
  obtain ⟨⟨l, h4, hl⟩, hz⟩ := ha
  obtain ⟨⟨m, h5, hm⟩, hw⟩ := hc
  refine ⟨⟨_, by omega, tn_times hg hl hm h4⟩, fun e => ?_⟩
  subst e
  obtain ⟨z, ez, hzM⟩ := hz rfl
  obtain ⟨y, ey, hyN⟩ := hw rfl
  refine ⟨z * y, ?_, by rw [Int.natAbs_mul]; exact Nat.mul_le_mul hzM hyN⟩
  rw [gvQ.times (.inl rfl) hl hm, gvQ.imul, gvQ.imul, ← ez, ← ey]
  grind
theorem TZ.minus {g D : Int} {M : Nat} {a : Int × Int} (hg : g = 0 ∨ Gr5 g) (ha : TZ g D M a) : TZ g D M (minusF g a) := by
  obtain ⟨⟨l, h4, hl⟩, hz⟩ := ha
  refine ⟨⟨_, h4, tn_minus hg hl h4⟩, fun e => ?_⟩
  subst e
  obtain ⟨z, ez, hzM⟩ := hz rfl
  refine ⟨-z, ?_, by omega⟩
  rw [gvQ.minus (.inl rfl) hl, gvQ.ineg, ← ez]
  grind
theorem TZ.zero {g : Int} (hg : g = 0 ∨ Gr5 g) (D : Int) (M : Nat) : TZ g D M (0, 1) := ⟨⟨4, Nat.le_refl _, tn_zero hg⟩, fun e => ⟨0, by rw [gvQ.zero, gvQ.i0]; grind, Nat.zero_le _⟩⟩
theorem TZ.one {g : Int} (hg : g = 0 ∨ Gr5 g) : TZ g 1 1 (1, 1) := ⟨⟨4, Nat.le_refl _, tn_one hg⟩, fun e => ⟨1, by rw [gvQ.one, gvQ.i1]; grind, by decide⟩⟩
/-- by a number's own bottom -/
theorem TZ.of {g : Int} {k : Nat} {a : Int × Int} (hg : g = 0 ∨ Gr5 g) (h : TN g k a) (hk : 4 ≤ k) : TZ g a.2 a.1.natAbs a := ⟨⟨k, hk, h⟩, fun e => by
  subst e
  exact ⟨a.1, (gvQ.tn (.inl rfl) h).1, Nat.le_refl _⟩⟩
/-- by any whole number that the bottom divides -/
theorem TZ.dvd {g D : Int} {k M : Nat} {a : Int × Int} (hg : g = 0 ∨ Gr5 g) (h : TN g k a) (hk : 4 ≤ k) (hd : a.2 ∣ D) (hM : a.1.natAbs * (D / a.2).natAbs ≤ M) : TZ g D M a := by
  obtain ⟨c, hc⟩ := hd
  have hp := h.pos
  have e : D / a.2 = c := by rw [hc]; exact Int.mul_ediv_cancel_left _ (by omega)
  rw [e] at hM
  rw [hc]
  exact ((TZ.of hg h hk).wide c).mono hM
/-- one over a number that isn't nought -/
theorem TZ.over {g D : Int} {M : Nat} {a c : Int × Int} {Dc : Int} {N : Nat} (hg : g = 0 ∨ Gr5 g) (ha : TZ g D M a) (hc : TZ g Dc N c) (h0 : c.1 ≠ 0) (hD0 : Dc ≠ 0) : ∃ z : Int, z ≠ 0 ∧ z.natAbs ≤ max N 1 ∧ TZ g (D * z) (M * Dc.natAbs) (ovrF g a c) := by
  obtain ⟨⟨l, h4, hl⟩, hz⟩ := ha
  obtain ⟨⟨m, h5, hm⟩, hw⟩ := hc
  have ht : ∃ l, 4 ≤ l ∧ TN g l (ovrF g a c) := ⟨_, by omega, tn_ovr hg hl hm h4 h0⟩
  by_cases e : g = 0
  · subst e
    obtain ⟨z, ez, hzM⟩ := hz rfl
    obtain ⟨y, ey, hyN⟩ := hw rfl
    have hec : gvQ.e c ≠ 0 := fun q => h0 ((e_zero (V := gvQ) (.inl rfl) hm).mp q)
    have hiD : gvQ.i Dc ≠ 0 := gvQ.ine hD0 fun q => absurd rfl q
    have y0 : y ≠ 0 := fun q => by
      rw [q, gvQ.i0] at ey
      exact hiD (gvQ.dom ey hec)
    refine ⟨y, y0, by omega, ht, fun _ => ⟨z * Dc, ?_, by rw [Int.natAbs_mul]; exact Nat.mul_le_mul_right _ hzM⟩⟩
    have ho := gvQ.over (.inl rfl) hl hm h0
    refine gvQ.cancel (z := gvQ.e c) ?_ hec
    rw [gvQ.imul, gvQ.imul, ← ez, ← ey]
    have ho' : gvQ.e (ovrF 0 a c) * gvQ.e c = gvQ.e a := ho
    grind
  · exact ⟨1, by decide, by show 1 ≤ max N 1; omega, ht, fun q => absurd q e⟩
/-- rows of such numbers -/
def RZ (g D : Int) (M n : Nat) (r : List (Int × Int)) : Prop := r.length = n ∧ ∀ a ∈ r, TZ g D M a
theorem rz_plus {g D : Int} {M N n : Nat} {r s : List (Int × Int)} (hg : g = 0 ∨ Gr5 g) (hr : RZ g D M n r) (hs : RZ g D N n s) : RZ g D (M + N) n (List.zipWith (plusF g) r s) := by
  refine ⟨by rw [List.length_zipWith, hr.1, hs.1]; omega, fun a ha => ?_⟩
  obtain ⟨x, hx, rfl⟩ := List.mem_iff_getElem.mp ha
  rw [List.length_zipWith] at hx
  rw [List.getElem_zipWith]
  exact (hr.2 _ (List.getElem_mem _)).plus hg (hs.2 _ (List.getElem_mem _))
theorem rz_times {g D D' : Int} {M N n : Nat} {r : List (Int × Int)} {c : Int × Int} (hg : g = 0 ∨ Gr5 g) (hr : RZ g D M n r) (hc : TZ g D' N c) : RZ g (D * D') (M * N) n (r.map fun a => timesF g a c) := by
  refine ⟨by rw [List.length_map, hr.1], fun a ha => ?_⟩
  obtain ⟨x, hx, rfl⟩ := List.mem_map.mp ha
  exact (hr.2 x hx).times hg hc
theorem rz_zero {g D : Int} {M n : Nat} (hg : g = 0 ∨ Gr5 g) : RZ g D M n (List.replicate n (0, 1)) := ⟨List.length_replicate, fun a ha => by rw [List.eq_of_mem_replicate ha]; exact TZ.zero hg D M⟩
theorem RZ.be {g D : Int} {M n k : Nat} {r : List (Int × Int)} (hg : g = 0 ∨ Gr5 g) (h : RZ g D M n r) (hk : 4 ≤ k) (hk2 : k ≤ 3900) (h0 : D ≠ 0) (hD : D.natAbs < 2 ^ k) (hM : M < 2 ^ k) : ∀ a ∈ r, PBe a := fun a ha => ((h.2 a ha).tn hg hk h0 hD hM).be hk2
section
variable {g : Int} {F : Type} [CommRing F] {V : GV g F}
theorem er_plus (hg : g = 0 ∨ Gr5 g) {D D' : Int} {M N n : Nat} {r s : List (Int × Int)} (hr : RZ g D M n r) (hs : RZ g D' N n s) : er V (List.zipWith (plusF g) r s) = fun j => er V r j + er V s j := funext fun j => by
  by_cases hj : j < n
  · have h1 : j < r.length := by rw [hr.1]; exact hj
    have h2 : j < s.length := by rw [hs.1]; exact hj
    obtain ⟨⟨l, _, hl⟩, _⟩ := hr.2 _ (List.getElem_mem h1)
    obtain ⟨⟨m, _, hm⟩, _⟩ := hs.2 _ (List.getElem_mem h2)
    rw [er_at (show j < (List.zipWith (plusF g) r s).length by rw [List.length_zipWith]; omega), List.getElem_zipWith, V.plus hg hl hm, er_at h1, er_at h2]
  · rw [er_out (show (List.zipWith (plusF g) r s).length ≤ j by rw [List.length_zipWith, hr.1]; omega), er_out (show r.length ≤ j by rw [hr.1]; omega), er_out (show s.length ≤ j by rw [hs.1]; omega)]
    grind
theorem er_times (hg : g = 0 ∨ Gr5 g) {D D' : Int} {M N n : Nat} {r : List (Int × Int)} {c : Int × Int} (hr : RZ g D M n r) (hc : TZ g D' N c) : er V (r.map fun a => timesF g a c) = fun j => V.e c * er V r j := funext fun j => by
  obtain ⟨⟨m, _, hm⟩, _⟩ := hc
  by_cases hj : j < n
  · have h1 : j < r.length := by rw [hr.1]; exact hj
    obtain ⟨⟨l, _, hl⟩, _⟩ := hr.2 _ (List.getElem_mem h1)
    rw [er_at (show j < (r.map fun a => timesF g a c).length by rw [List.length_map]; exact h1), List.getElem_map, V.times hg hl hm, er_at h1]
    grind
  · rw [er_out (show (r.map fun a => timesF g a c).length ≤ j by rw [List.length_map, hr.1]; omega), er_out (show r.length ≤ j by rw [hr.1]; omega)]
    grind
theorem er_zeros (n : Nat) : er V (List.replicate n (0, 1)) = fun _ => 0 := funext fun j => by
  have e : ga (List.replicate n ((0 : Int), (1 : Int))) j = (0, 1) := by
    by_cases hj : j < n
    · rw [ga_at (by rw [List.length_replicate]; exact hj), List.getElem_replicate]
    · unfold ga
      rw [List.getD_eq_getElem?_getD, List.getElem?_eq_none (by rw [List.length_replicate]; omega)]
      rfl
  rw [er_ga, e, V.zero]
end
end Fm

namespace PySem
open Sem (wp)
open AutoSeq1 (wpAny_loadPart')
section
variable {prog : Program} {w : World} {A : Around} {E : Value → Shared → Prop} {s : Shared}
end
end PySem
namespace L2
open PySem PySem.Spec PyProof.Rows
def IteT (K : PySem.W.Frag) (a : Addr) : It :=
  ⟨fun i H => ∃ (xs : List V) (x : V), SqT K H a xs ∧ xs[i]? = some x, fun i H v H' => ∃ T x, v = .ref T ∧ H T = none ∧ H' = upd H T (.tup [.int (i : Nat), x]) ∧ ∀ xs, SqT K H a xs → xs[i]? = some x, fun i H => ∃ xs : List V, SqT K H a xs ∧ xs.length = i⟩
def iEnumT (K : PySem.W.Frag) (ta : TA) : TI := fun σ H R => ta σ H fun vs H1 => ∃ a xs, vs = [.ref a] ∧ SqT K H1 a xs ∧ R (IteT K a) H1
end L2

namespace Fr
open Lean.Grind
variable {F : Type} [CommRing F]
theorem SF_comm (f : Nat → Nat → F) (m : Nat) : ∀ (n : Nat), SF (fun i => SF (fun j => f i j) m) n = SF (fun j => SF (fun i => f i j) n) m
  | 0 => (SF_zero m).symm
  | n + 1 => by
    show SF (fun i => SF (fun j => f i j) m) n + SF (fun j => f n j) m = SF (fun j => SF (fun i => f i j) n + f n j) m
    rw [SF_comm f m n, ← SF_add]
theorem Alt.clear2 {m : Nat} {f : List (Row F) → F} (a : Alt m f) {u r : Row F} {k : F} {pre post : List (Row F)} (hu : u ∈ post) (h : pre.length + post.length + 1 = m) : f (pre ++ (fun j => r j + k * u j) :: post) = f (pre ++ r :: post) := by
  rw [a.add pre r (fun j => k * u j) post h, a.mul pre k u post h]
  obtain ⟨p1, p2, rfl⟩ := List.append_of_mem hu
  rw [List.length_append, List.length_cons] at h
  rw [a.twice (u := u) pre p1 p2 (by omega)]
  grind
/-- one at a place alone -/
theorem SF_one {n i : Nat} (hi : i < n) (f : Nat → F) (hz : ∀ k, k < n → k ≠ i → f k = 0) : SF f n = f i := by
  have hs := SF_split f i (n - i - 1)
  rw [show i + 1 + (n - i - 1) = n by omega] at hs
  rw [hs, SF_nul (f := f) (n := i) fun k hk => hz k (by omega) (by omega), SF_nul (f := fun k => f (i + 1 + k)) fun k hk => hz _ (by omega) (by omega)]
  grind
theorem thr_unit {B : List (Row F)} {i : Nat} (hi : i < B.length) : thr B (unit i) = B.getD i zr := by
  funext j
  show SF (fun k => unit i k * (B.getD k zr) j) B.length = _
  rw [SF_one hi _ fun k _ hk => by
    unfold unit
    rw [if_neg hk]
    grind]
  unfold unit
  rw [if_pos rfl]
  grind
theorem thr_add (B : List (Row F)) (u v : Row F) : thr B (fun j => u j + v j) = fun j => thr B u j + thr B v j := funext fun j => by
  show SF (fun i => (u i + v i) * (B.getD i zr) j) B.length = SF (fun i => u i * (B.getD i zr) j) B.length + SF (fun i => v i * (B.getD i zr) j) B.length
  rw [← SF_add]
  exact SF_congr fun i _ => by grind
theorem thr_mul (B : List (Row F)) (c : F) (u : Row F) : thr B (fun j => c * u j) = fun j => c * thr B u j := funext fun j => by
  show SF (fun i => c * u i * (B.getD i zr) j) B.length = c * SF (fun i => u i * (B.getD i zr) j) B.length
  rw [← SF_mul]
  exact SF_congr fun i _ => by grind
/-- the product of two rows by a table -/
def bil (T : List (Row F)) (m : Nat) (u v : Row F) : F := SF (fun j => thr T u j * v j) m
def SymF (T : List (Row F)) (m : Nat) : Prop := ∀ i j, i < m → j < m → (T.getD i zr) j = (T.getD j zr) i
theorem getD_map {α : Type} {f : α → Row F} {t : List α} {i : Nat} {a : α} (h : t[i]? = some a) : (t.map f).getD i zr = f a := by
  rw [List.getD_eq_getElem?_getD, List.getElem?_map, h]
  rfl
theorem getD_thr {A B : List (Row F)} {i : Nat} (hi : i < A.length) : (A.map (thr B)).getD i zr = thr B (A.getD i zr) := by
  rw [List.getD_eq_getElem?_getD, List.getD_eq_getElem?_getD, List.getElem?_map, List.getElem?_eq_getElem hi]
  rfl
/-- by other letters: still the same turned -/
theorem sym_step {P T Q : List (Row F)} {m : Nat} (hP : P.length = m) (hT : T.length = m) (hQ : Q.length = m) (hs : SymF T m) (hPQ : ∀ i j, i < m → j < m → (Q.getD j zr) i = (P.getD i zr) j) : SymF ((P.map (thr T)).map (thr Q)) m := fun i j hi hj => by
  have key : ∀ i j, i < m → j < m → (((P.map (thr T)).map (thr Q)).getD i zr) j = SF (fun b => SF (fun a => (P.getD i zr) a * (T.getD a zr) b * (P.getD j zr) b) m) m := fun i j hi hj => by
    rw [getD_thr (by rw [List.length_map]; omega), getD_thr (by omega)]
    show SF (fun b => SF (fun a => (P.getD i zr) a * (T.getD a zr) b) T.length * (Q.getD b zr) j) Q.length = _
    rw [hQ, hT]
    refine SF_congr fun b hb => ?_
    rw [hPQ j b hj hb]
    have : SF (fun a => (P.getD i zr) a * (T.getD a zr) b) m * (P.getD j zr) b = (P.getD j zr) b * SF (fun a => (P.getD i zr) a * (T.getD a zr) b) m := by grind
    rw [this, ← SF_mul]
    exact SF_congr fun a _ => by grind
  rw [key i j hi hj, key j i hj hi, SF_comm]
  refine SF_congr fun a ha => SF_congr fun b hb => ?_
  rw [hs a b ha hb]
  grind
theorem det_step {P T Q : List (Row F)} {m : Nat} (hP : P.length = m) (hT : T.length = m) (hQ : Q.length = m) (hPQ : ∀ i j, i < m → j < m → (Q.getD j zr) i = (P.getD i zr) j) : dC ((P.map (thr T)).map (thr Q)) (List.range m) = dC P (List.range m) * dC T (List.range m) * dC P (List.range m) := by
  have hlr : (List.range m).length = m := List.length_range
  rw [dC_mul (n := m) (by rw [List.length_map]; exact hP) hQ hlr, dC_mul (n := m) hP hT hlr]
  have e : dC Q (List.range m) = dC P (List.range m) := by
    rw [dC_dR (rs := P) (by rw [hlr]; exact hP) List.nodup_range]
    refine (dR_turn P (List.range m) Q (List.range m) (by rw [hlr]; exact hQ) (by rw [hlr]; exact hP.symm) fun i k a c r t hr ha hc ht => ?_).symm
    have hi := (List.getElem?_eq_some_iff.mp ha).1
    have hk := (List.getElem?_eq_some_iff.mp hc).1
    rw [hlr] at hi hk
    rw [List.getElem?_range hi] at ha
    rw [List.getElem?_range hk] at hc
    cases Option.some.inj ha
    cases Option.some.inj hc
    have := hPQ i k hi hk
    rw [List.getD_eq_getElem?_getD, List.getD_eq_getElem?_getD, hr, ht] at this
    exact this.symm
  rw [e]
/-- ones with one number more -/
theorem det_elem {m i j : Nat} (hi : i < m) (hj : j < m) (hij : i ≠ j) (x : F) : dC (((List.range m).map unit).set i (fun c => unit i c + x * unit j c)) (List.range m) = 1 := by
  have hlr : (List.range m).length = m := List.length_range
  have hl : i < ((List.range m).map (unit (F := F))).length := by rw [List.length_map, hlr]; exact hi
  obtain ⟨e1, _⟩ := erase_parts (cs := (List.range m).map (unit (F := F))) (d := zr) hl
  have eg : ((List.range m).map (unit (F := F))).getD i zr = unit i := getD_map (List.getElem?_range hi)
  rw [eg] at e1
  have es : ((List.range m).map (unit (F := F))).set i (fun c => unit i c + x * unit j c) = ((List.range m).map (unit (F := F))).take i ++ (fun c => unit i c + x * unit j c) :: ((List.range m).map (unit (F := F))).drop (i + 1) := by
    rw [List.set_eq_take_append_cons_drop, if_pos hl]
  have a := dC_alt (List.range m) (F := F)
  have hlen : (((List.range m).map (unit (F := F))).take i).length + (((List.range m).map (unit (F := F))).drop (i + 1)).length + 1 = (List.range m).length := by
    rw [List.length_take, List.length_drop, List.length_map, hlr]
    omega
  have hu := dC_units (F := F) (List.range m) List.nodup_range
  rw [es]
  have hfin : dC (((List.range m).map (unit (F := F))).take i ++ unit i :: ((List.range m).map (unit (F := F))).drop (i + 1)) (List.range m) = 1 := by
    rw [← e1]
    exact hu
  rw [← hfin]
  have gj : ((List.range m).map (unit (F := F)))[j]? = some (unit j) := by rw [List.getElem?_map, List.getElem?_range hj]; rfl
  by_cases h : j < i
  · refine a.clear1 ?_ hlen
    have : (((List.range m).map (unit (F := F))).take i)[j]? = some (unit j) := by rw [List.getElem?_take, if_pos h]; exact gj
    exact List.mem_of_getElem? this
  · refine a.clear2 ?_ hlen
    have : (((List.range m).map (unit (F := F))).drop (i + 1))[j - (i + 1)]? = some (unit j) := by rw [List.getElem?_drop, show i + 1 + (j - (i + 1)) = j by omega]; exact gj
    exact List.mem_of_getElem? this
/-- from corner to corner -/
theorem det_diag {m : Nat} (d : Nat → F) : dC ((List.range m).map fun i c => d i * unit i c) (List.range m) = ((List.range m).map d).foldr (· * ·) 1 := by
  have go : ∀ (is : List Nat) (pre : List (Row F)), pre.length + is.length = m → dC (pre ++ is.map fun i c => d i * unit i c) (List.range m) = (is.map d).foldr (· * ·) 1 * dC (pre ++ is.map unit) (List.range m) := fun is => by
    induction is with
    | nil =>
      intro pre _
      show dC (pre ++ []) _ = 1 * dC (pre ++ []) _
      grind
    | cons i is ih =>
      intro pre h
      rw [List.length_cons] at h
      have h1 := (dC_alt (List.range m) (F := F)).mul pre (d i) (unit i) (is.map fun i c => d i * unit i c) (by rw [List.length_map, List.length_range]; omega)
      have h2 := ih (pre ++ [unit i]) (by rw [List.length_append]; show pre.length + 1 + is.length = m; omega)
      simp only [List.append_assoc, List.singleton_append] at h2
      show dC (pre ++ (fun c => d i * unit i c) :: is.map fun i c => d i * unit i c) _ = d i * (is.map d).foldr (· * ·) 1 * dC (pre ++ unit i :: is.map unit) _
      rw [h1, h2]
      grind
  have := go (List.range m) [] (by rw [List.length_nil, List.length_range]; omega)
  rw [List.nil_append, List.nil_append, dC_units _ List.nodup_range] at this
  rw [this]
  grind
/-- a form has a row of some worth among letters and two letters together -/
theorem some_worth {T : List (Row F)} {m : Nat} (hT : T.length = m) (hm : 1 ≤ m) (hs : SymF T m) (hd : dC T (List.range m) ≠ 0) (two : ∀ x : F, x + x = 0 → x = 0) (h1 : ∀ i, i < m → bil T m (unit i) (unit i) = 0) (h2 : ∀ j k, j < k → k < m → bil T m (fun c => unit j c + unit k c) (fun c => unit j c + unit k c) = 0) : False := by
  have hb : ∀ i j, i < m → j < m → bil T m (unit i) (unit j) = (T.getD i zr) j := fun i j hi hj => by
    show SF (fun c => thr T (unit i) c * unit j c) m = _
    rw [thr_unit (by omega), SF_one hj _ fun k _ hk => by
      unfold unit
      rw [if_neg hk]
      grind]
    unfold unit
    rw [if_pos rfl]
    grind
  have hadd : ∀ u v w z : Row F, bil T m (fun c => u c + v c) (fun c => w c + z c) = bil T m u w + bil T m u z + (bil T m v w + bil T m v z) := fun u v w z => by
    unfold bil
    rw [← SF_add, ← SF_add, ← SF_add, thr_add]
    exact SF_congr fun i _ => by grind
  have hz : ∀ i j, i < m → j < m → (T.getD i zr) j = 0 := fun i j hi hj => by
    by_cases e : i = j
    · subst e
      rw [← hb i i hi hi]
      exact h1 i hi
    · have main : ∀ j k, j < k → k < m → (T.getD j zr) k = 0 := fun j k hjk hk => by
        have := h2 j k hjk hk
        rw [hadd, h1 j (by omega), h1 k hk, hb j k (by omega) hk, hb k j hk (by omega), ← hs j k (by omega) hk] at this
        exact two _ (by grind)
      by_cases h : i < j
      · exact main i j h hj
      · rw [hs i j hi hj]
        exact main j i (by omega) hi
  refine hd ?_
  cases m with
  | zero => omega
  | succ m =>
    rw [List.range_succ_eq_map]
    show SF (fun i => sF i * (T.getD i zr) 0 * dC (T.eraseIdx i) _) T.length = 0
    exact SF_nul fun i hi => by
      rw [hz i 0 (by omega) (by omega)]
      grind
end Fr

namespace Fm
open Lean.Grind PySem L2 Fr Fd
section
variable {g : Int} {F : Type} [CommRing F] {V : GV g F}
/-- a form's table: the same turned, not flat -/
structure FrmT (W : GV g F) (D : Int) (M m : Nat) (t : List (List (Int × Int))) : Prop where
  len : t.length = m
  row : ∀ r ∈ t, RZ g D M m r
  sym : SymF (t.map (er W)) m
  det : dC (t.map (er W)) (List.range m) ≠ 0
theorem tz_low1 (hg : g = 0 ∨ Gr5 g) (u : Int) (hu : u.natAbs < 2 ^ 4) : TZ g 1 u.natAbs (lowF g u 1) := by
  have hf : g ≠ 0 → (1 : Int).fmod g ≠ 0 := fun z => one_fmod (hg.resolve_left z)
  refine ⟨⟨4, Nat.le_refl _, tn_low hg (by decide) hf (Nat.le_refl _) hu (by decide)⟩, fun e => ?_⟩
  subst e
  exact ⟨u, gvQ.low (.inl rfl) (by decide) fun z => absurd rfl z, Nat.le_refl _⟩
theorem ng_tz (hg : g = 0 ∨ Gr5 g) {a : Int × Int} (h : NG g 0 a) (ht : TN g 7 a) : TZ g 2520 161280 a := by
  refine TZ.dvd hg ht (by decide) h.2.1 ?_
  have h1 := h.2.2.1
  have hp := h.1
  obtain ⟨c, hc⟩ := h.2.1
  have e : (2520 : Int) / a.2 = c := by rw [hc]; exact Int.mul_ediv_cancel_left _ (by omega)
  rw [e]
  have h2 : a.2.natAbs * c.natAbs = 2520 := by
    have := congrArg Int.natAbs hc
    rw [Int.natAbs_mul] at this
    exact this.symm
  calc a.1.natAbs * c.natAbs ≤ 64 * 2 ^ 0 * a.2.natAbs * c.natAbs := Nat.mul_le_mul_right _ h1
    _ = 64 * 2 ^ 0 * 2520 := by rw [Nat.mul_assoc, h2]
    _ = 161280 := by decide
theorem er_onesrow {m k : Nat} (hk : k < m) : er V ((List.range m).map fun j => ((if k = j then 1 else 0 : Int), (1 : Int))) = unit k := funext fun c => by
  by_cases hc : c < m
  · rw [er_ones hc]
    unfold unit
    by_cases e : k = c
    · rw [if_pos e, if_pos e.symm]
    · rw [if_neg e, if_neg fun z => e z.symm]
  · rw [er_out (by rw [List.length_map, List.length_range]; omega)]
    unfold unit
    rw [if_neg (by omega)]
theorem er_onesF (m : Nat) : (onesF m).map (er V) = (List.range m).map unit := by
  unfold onesF
  rw [List.map_map]
  exact List.map_congr_left fun k hk => er_onesrow (List.mem_range.mp hk)
theorem rz_onesrow (hg : g = 0 ∨ Gr5 g) {m k : Nat} : RZ g 1 1 m ((List.range m).map fun j => ((if k = j then 1 else 0 : Int), (1 : Int))) := by
  refine ⟨by rw [List.length_map, List.length_range], fun a ha => ?_⟩
  obtain ⟨j, _, rfl⟩ := List.mem_map.mp ha
  split
  · exact TZ.one hg
  · exact TZ.zero hg _ _
theorem rz_ones (hg : g = 0 ∨ Gr5 g) {m : Nat} : ∀ r ∈ onesF m, RZ g 1 1 m r := fun r hr => by
  unfold onesF at hr
  obtain ⟨k, _, rfl⟩ := List.mem_map.mp hr
  exact rz_onesrow hg
theorem er_set {r : List (Int × Int)} {j : Nat} {a : Int × Int} (hj : j < r.length) : er V (r.set j a) = fun c => if c = j then V.e a else er V r c := funext fun c => by
  rw [er_ga, er_ga]
  unfold ga
  rw [List.getD_eq_getElem?_getD, List.getD_eq_getElem?_getD, List.getElem?_set]
  by_cases e : j = c
  · subst e
    rw [if_pos rfl, if_pos rfl, if_pos hj]
    rfl
  · rw [if_neg e, if_neg fun z => e z.symm]
/-- ones with one number more -/
theorem er_step {m i j : Nat} (hi : i < m) (hj : j < m) (hij : i ≠ j) (a : Int × Int) : ((onesF m).set i (((List.range m).map fun c => ((if i = c then 1 else 0 : Int), (1 : Int))).set j a)).map (er V) = ((List.range m).map unit).set i (fun c => unit i c + V.e a * unit j c) := by
  rw [List.map_set, er_onesF]
  congr 1
  rw [er_set (by rw [List.length_map, List.length_range]; exact hj), er_onesrow hi]
  funext c
  unfold unit
  by_cases e : c = j
  · subst e
    rw [if_pos rfl, if_pos rfl, if_neg (fun z => hij z.symm)]
    grind
  · rw [if_neg e, if_neg e]
    grind
theorem FrmT.step (hg : g = 0 ∨ Gr5 g) {W : GV g F} {D D' : Int} {M M' m : Nat} {t P T1 T2 : List (List (Int × Int))} (f : FrmT W D M m t) (hP : P.length = m) (hdP : dC (P.map (er W)) (List.range m) ≠ 0) (hPr : ∀ r ∈ P, r.length = m)
    (h1 : T1.map (er W) = (P.map (er W)).map (thr (t.map (er W)))) (h2 : T2.map (er W) = (T1.map (er W)).map (thr ((turnF m P).map (er W)))) (hl : T2.length = m) (hr : ∀ r ∈ T2, RZ g D' M' m r) : FrmT W D' M' m T2 := by
  have hlQ : ((turnF m P).map (er W)).length = m := by unfold turnF; rw [List.length_map, List.length_map, List.length_range]
  have hPQ : ∀ i j, i < m → j < m → (((turnF m P).map (er W)).getD j zr) i = ((P.map (er W)).getD i zr) j := fun i j hi hj => by
    rw [getD_map (turn_at hj), getD_map (List.getElem?_eq_getElem (show i < P.length by omega)), er_at (show i < (P.map fun row => row.getD j (0, 1)).length by rw [List.length_map]; omega), List.getElem_map, er_ga]
  refine ⟨hl, hr, ?_, ?_⟩
  · rw [h2, h1]
    exact sym_step (by rw [List.length_map]; exact hP) (by rw [List.length_map]; exact f.len) hlQ f.sym hPQ
  · rw [h2, h1, det_step (by rw [List.length_map]; exact hP) (by rw [List.length_map]; exact f.len) hlQ hPQ]
    intro z
    have z1 := W.dom (x := dC (P.map (er W)) (List.range m) * dC (t.map (er W)) (List.range m)) z
    have hne : dC (P.map (er W)) (List.range m) * dC (t.map (er W)) (List.range m) ≠ 0 := fun y => f.det (W.dom y hdP)
    exact hdP (z1 hne)
theorem two_ne (hg : g = 0 ∨ Gr5 g) (W : GV g F) : ∀ x : F, x + x = 0 → x = 0 := fun x h => by
  have h2 : W.i 2 ≠ 0 := W.ine (by decide) fun z => by
    have h5 := hg.resolve_left z
    unfold Gr5 at h5
    rcases h5 with rfl | rfl | rfl | rfl | rfl <;> decide
  have e : W.i 2 * x = 0 := by
    rw [show (2 : Int) = 1 + 1 from rfl, W.iadd, W.i1]
    grind
  exact W.dom e h2
/-- numbers from corner to corner -/
def diagF (d : List (Int × Int)) : List (List (Int × Int)) := (List.range d.length).map fun i => (List.range d.length).map fun j => if i = j then d.getD i (0, 1) else (0, 1)
theorem diag_frm (hg : g = 0 ∨ Gr5 g) (W : GV g F) {D : Int} {M m k : Nat} {d : List (Int × Int)} (hl : d.length = m) (hd : ∀ a ∈ d, TZ g D M a ∧ TN g k a ∧ a.1 ≠ 0) : FrmT W D M m (diagF d) := by
  have hlen : (diagF d).length = m := by unfold diagF; rw [List.length_map, List.length_range, hl]
  have hget : ∀ i, i < m → (diagF d)[i]? = some ((List.range m).map fun j => if i = j then d.getD i (0, 1) else (0, 1)) := fun i hi => by
    unfold diagF
    rw [List.getElem?_map, hl, List.getElem?_range hi]
    rfl
  have her : ∀ i, i < m → er W ((List.range m).map fun j => if i = j then d.getD i (0, 1) else (0, 1)) = fun c => W.e (d.getD i (0, 1)) * unit i c := fun i hi => funext fun c => by
    by_cases hc : c < m
    · rw [er_at (show c < ((List.range m).map fun j => if i = j then d.getD i (0, 1) else (0, 1)).length by rw [List.length_map, List.length_range]; exact hc), List.getElem_map, List.getElem_range]
      unfold unit
      by_cases e : i = c
      · rw [if_pos e, if_pos e.symm]
        grind
      · rw [if_neg e, if_neg fun z => e z.symm, W.zero]
        grind
    · rw [er_out (by rw [List.length_map, List.length_range]; omega)]
      unfold unit
      rw [if_neg (by omega)]
      grind
  have hmap : (diagF d).map (er W) = (List.range m).map fun i c => W.e (d.getD i (0, 1)) * unit i c := by
    refine List.ext_getElem? fun i => ?_
    rw [List.getElem?_map, List.getElem?_map]
    by_cases hi : i < m
    · rw [hget i hi, List.getElem?_range hi]
      show some (er W _) = _
      rw [her i hi]
      rfl
    · rw [List.getElem?_eq_none (by omega), List.getElem?_eq_none (by rw [List.length_range]; omega)]
      rfl
  refine ⟨hlen, fun r hr => ?_, fun i j hi hj => ?_, ?_⟩
  · obtain ⟨i, hi⟩ := List.getElem?_of_mem hr
    have hil := (List.getElem?_eq_some_iff.mp hi).1
    rw [hget i (by omega)] at hi
    cases Option.some.inj hi
    refine ⟨by rw [List.length_map, List.length_range], fun a ha => ?_⟩
    obtain ⟨j, _, rfl⟩ := List.mem_map.mp ha
    split
    · rw [List.getD_eq_getElem?_getD, List.getElem?_eq_getElem (show i < d.length by omega)]
      exact (hd _ (List.getElem_mem _)).1
    · exact TZ.zero hg _ _
  · rw [hmap, getD_map (List.getElem?_range hi), getD_map (List.getElem?_range hj)]
    show W.e (d.getD i (0, 1)) * unit i j = W.e (d.getD j (0, 1)) * unit j i
    unfold unit
    by_cases e : i = j
    · rw [e]
    · rw [if_neg fun z => e z.symm, if_neg e]
      grind
  · rw [hmap, det_diag]
    have go : ∀ is : List Nat, (∀ i ∈ is, i < m) → (is.map fun i => W.e (d.getD i (0, 1))).foldr (· * ·) 1 ≠ 0 := fun is => by
      induction is with
      | nil => exact fun _ => W.ne
      | cons i is ih =>
        intro h z
        have hi := h i List.mem_cons_self
        have hne : W.e (d.getD i (0, 1)) ≠ 0 := by
          rw [List.getD_eq_getElem?_getD, List.getElem?_eq_getElem (show i < d.length by omega)]
          have := hd _ (List.getElem_mem (show i < d.length by omega))
          exact fun y => this.2.2 ((e_zero hg this.2.1).mp y)
        exact ih (fun j hj => h j (List.mem_cons_of_mem _ hj)) (W.dom z hne)
    exact go _ fun i hi => List.mem_range.mp hi
end
theorem tab_mem {H : Hp} {xs ys : List V} {t : List (List (Int × Int))} (h : Acc RowV H xs t t.length) (hm : ∀ y ∈ ys, y ∈ xs) : ∃ u, Acc RowV H ys u u.length ∧ u.length = ys.length ∧ (∀ r ∈ u, r ∈ t) ∧ ∀ (x : V) (r : List (Int × Int)), x ∈ ys → RowV H x r → r ∈ u := by
  induction ys with
  | nil => exact ⟨[], Acc.nil, rfl, fun r hr => (by cases hr), fun x r hx => (by cases hx)⟩
  | cons y ys ih =>
    obtain ⟨u, h1, h2, h3, h4⟩ := ih fun z hz => hm z (List.mem_cons_of_mem _ hz)
    obtain ⟨i, hi⟩ := List.getElem?_of_mem (hm y List.mem_cons_self)
    have hl := (List.getElem?_eq_some_iff.mp hi).1
    rw [h.1] at hl
    have gt1 : t[i]? = some t[i] := List.getElem?_eq_getElem hl
    have hy := h.2 i y _ hi gt1
    refine ⟨t[i] :: u, ⟨by rw [List.length_cons, List.length_cons, h1.1], fun j x a e1 e2 => ?_⟩, by rw [List.length_cons, List.length_cons, h2], fun r hr => ?_, fun x r hx hr => ?_⟩
    · cases j with
      | zero =>
        cases Option.some.inj e1
        cases Option.some.inj e2
        exact hy
      | succ j => exact h1.2 j x a e1 e2
    · rcases List.mem_cons.mp hr with rfl | hr
      · exact List.getElem_mem hl
      · exact h3 r hr
    · rcases List.mem_cons.mp hx with rfl | hx
      · rw [rowV_uniq hr hy]
        exact List.mem_cons_self
      · exact List.mem_cons_of_mem _ (h4 x r hx hr)

/-- the rows behind the first without a column -/
def minF (k : Nat) (t : List (List (Int × Int))) : List (List (Int × Int)) := (t.drop 1).map fun r => r.eraseIdx k
def waysM (M : Nat) : Nat → Nat
  | 0 => 1
  | d + 1 => (d + 1) * (M * waysM M d)
theorem w_enumT {K : PySem.W.Frag} {ta : TA} {σ : L2.St} {H : Hp} {R : It → Hp → Prop} (h : ta σ H fun vs H1 => ∃ a xs, vs = [.ref a] ∧ SqT K H1 a xs ∧ R (IteT K a) H1) : iEnumT K ta σ H R := h
end Fm

namespace PySem
namespace Fm6
open PySem.W PySem.Calls PyProof.Rows Builtin Builtin.ObjectAttr
/-- the two rows of such an __init__ -/
abbrev iBodyF (txt sf fld par : Str) (p0 p1 p2 p3 p4 p5 p6 p7 p8 q0 q1 q2 q3 : Pos) (j : Nat) : List Stmt :=
  [.Expr (.Call (.Attribute (.Call (.Name "super" p0) [] [] p1) "__init__" p2) [.JoinedStr [.Constant (.str txt) j p5, .FormattedValue (.Name par p6) (-1) none p7] p8] [] p3) p4, .Assign [.Attribute (.Name sf q0) fld q1] (.Name par q2) q3]
section
variable {prog : Program} {w : World} {A : Around} {E : Value → Shared → Prop} {h : Heap} {g : Array GenState} {d : Drawn} {t : Nat} {os : OsState} {B ini newId : String} {tl : List Value} {K : Frag}
variable {nm q : Str} {C N : Addr} {bs : List Value} {sn : List Str} {sub : List Value} {ab : Bool} {col : Option Bool} {dd : Option Addr} {k0 k1 k2 k3 k5 : Option Value}
end
end Fm6
end PySem
namespace L2
open PySem PySem.Spec PyProof.Rows PySem.W PySem.Fm6
/-- what such an __init__ promises -/
def spInitF (C : Addr) (fld : Str) : Sp := fun vs H Q _ => ∃ (a : Addr) (n : Nat), vs = [.ref a, .int (n : Nat)] ∧ n < 10 ∧ H a = some (exo a C none) ∧ ∀ dx, H dx = none → dx ≠ a → Q .non (upd (upd H dx (exd dx [(fld, .int (n : Nat))])) a (exo a C (some dx)))
section
variable {P : Program} {w : World} {K : Frag} {mg : Str → Option Value} {base : Heap} {CX : CXT} {k : Nat} {B ini newId : String} {tl : List Value} {C : Addr}
end
end L2
namespace Fm
open PySem PySem.Spec PyProof.Rows L2 PySem.Fm6
/-- what is known of Flat where it is raised -/
structure FlatC (P : Program) (w : World) (K : PySem.W.Frag) (mg : Str → Option Value) (base : Heap) (fI : Addr) (fd : FuncData) : Prop where
  T : OexB K (He.ga K "Flat") "ArithmeticError.__new__" [.type "ArithmeticError", .type "Exception", .type "BaseException", .type "object"]
  i : PySem.W.findIn K (.ref (He.ga K "Flat")) "__init__" = some (some (.ref fI))
  ty : PySem.W.typeIn K (.ref fI) = some (.type "function")
  fn : FnOk P w K mg base C8.CX0 1 fI fd ["self", "rank"] (spInitF (He.ga K "Flat") "rank")
  b : Binds K fd ["self", "rank"] []
  g : mg "Flat" = some (.ref (He.ga K "Flat"))
end Fm

namespace Fr
open Lean.Grind
variable {F : Type} [CommRing F]
end Fr
namespace Fm
open Lean.Grind PySem L2 Fr Fd
section
variable {g : Int} {F : Type} [CommRing F] {V : GV g F}
/-! ### sizes of a back -/
theorem zd_iff {F' : Type} [CommRing F'] {V : GV 0 F} {W : GV 0 F'} {k : Nat} {a : Int × Int} (h : TN 0 k a) {D z : Int} (e : V.e a * V.i D = V.i z) : a.1 * D = z * a.2 ∧ W.e a * W.i D = W.i z := by
  obtain ⟨e1, n1⟩ := V.tn (.inl rfl) h
  have e2 : a.1 * D = z * a.2 := ei_z (V := V) rfl (by rw [V.imul, V.imul, ← e1, ← e]; grind)
  obtain ⟨e3, n3⟩ := W.tn (.inl rfl) h
  refine ⟨e2, W.cancel (z := W.i a.2) ?_ n3⟩
  rw [← W.imul, ← e2, W.imul, ← e3]
  grind
theorem TZ.val {V : GV 0 F} {D : Int} {M : Nat} {a : Int × Int} (h : TZ 0 D M a) : ∃ z : Int, a.1 * D = z * a.2 ∧ V.e a * V.i D = V.i z ∧ z.natAbs ≤ M := by
  obtain ⟨⟨l, _, hl⟩, hz⟩ := h
  obtain ⟨z, ez, hzM⟩ := hz rfl
  obtain ⟨e1, e2⟩ := zd_iff (W := V) hl ez
  exact ⟨z, e1, e2, hzM⟩
theorem TZ.ofv {V : GV 0 F} {k : Nat} {a : Int × Int} (hk : 4 ≤ k) (h : TN 0 k a) {D z : Int} {M : Nat} (e : V.e a * V.i D = V.i z) (hz : z.natAbs ≤ M) : TZ 0 D M a := ⟨⟨k, hk, h⟩, fun _ => ⟨z, (zd_iff (W := gvQ) h e).2, hz⟩⟩
/-- a row by one bottom, as whole numbers -/
def zT (D : Int) (r : List (Int × Int)) : List Int := r.map fun a => a.1 * D / a.2
theorem wr_tz (hg : g = 0 ∨ Gr5 g) {D : Int} {M A : Nat} {r : List (Int × Int)} (h : ∀ a ∈ r, TZ g D M a) (hD0 : D ≠ 0) (hDA : D.natAbs ≤ A) (hMA : M ≤ A) (hA : 13 ≤ A) : (wrB r).natAbs ≤ A ∧ ∀ y ∈ wrT r, y.natAbs ≤ A := by
  by_cases hg0 : g = 0
  · subst hg0
    have hd : ∀ a ∈ r, 0 < a.2 ∧ a.2 ∣ D ∧ ∃ z : Int, a.1 * D = z * a.2 ∧ z.natAbs ≤ M := fun a ha => by
      obtain ⟨z, e1, _, hz⟩ := (h a ha).val (V := gvQ)
      obtain ⟨⟨l, _, hl⟩, _⟩ := h a ha
      have hr := red_of rfl hl
      exact ⟨hr.1, dvd_cop hr.2 ⟨z, by rw [e1, Int.mul_comm]⟩, z, e1, hz⟩
    obtain ⟨b1, b2, b3⟩ := wrB_spec fun a ha => (hd a ha).1
    have hdv := b3 D fun a ha => (hd a ha).2.1
    refine ⟨Nat.le_trans (Nat.le_of_dvd (by omega) (Int.natAbs_dvd_natAbs.mpr hdv)) hDA, fun y hy => ?_⟩
    obtain ⟨a, ha, rfl⟩ := List.mem_map.mp hy
    obtain ⟨p1, _, z, e1, hz⟩ := hd a ha
    obtain ⟨c, hc⟩ := b2 a ha
    obtain ⟨d, hd2⟩ := hdv
    rw [hc, Int.mul_fdiv_cancel_left _ (by omega)]
    have e2 : z = a.1 * c * d := by
      have : a.2 * z = a.2 * (a.1 * c * d) := by
        rw [Int.mul_comm a.2 z, ← e1, hd2, hc]
        grind
      exact Int.eq_of_mul_eq_mul_left (by omega) this
    have hd0 : 1 ≤ d.natAbs := by
      have : d ≠ 0 := fun z => hD0 (by rw [hd2, z, Int.mul_zero])
      omega
    rw [e2, Int.natAbs_mul] at hz
    exact Nat.le_trans (Nat.le_trans (Nat.le_mul_of_pos_right _ hd0) hz) hMA
  · have hd : ∀ a ∈ r, a.2 = 1 ∧ a.1.natAbs ≤ 13 := fun a ha => by
      obtain ⟨⟨l, _, hl⟩, _⟩ := h a ha
      rcases hl.1 with ⟨w, _⟩ | ⟨_, a0, a1, a2⟩
      · exact absurd w hg0
      · have := (grb hg).2
        exact ⟨a2, by omega⟩
    rw [wrB_one fun a ha => (hd a ha).1, wrT_one fun a ha => (hd a ha).1]
    refine ⟨by show 1 ≤ A; omega, fun y hy => ?_⟩
    obtain ⟨a, ha, rfl⟩ := List.mem_map.mp hy
    exact Nat.le_trans (hd a ha).2 hA
end
end Fm

namespace Fm
open Lean.Grind PySem L2 Fr Fd
section
variable {g : Int} {F : Type} [CommRing F] {V : GV g F}
end
end Fm

namespace Fr
open Lean.Grind
variable {F : Type} [CommRing F]
theorem set_parts {α : Type} {A : List α} {i : Nat} (h : i < A.length) (v : α) : A = A.take i ++ A[i] :: A.drop (i + 1) ∧ A.set i v = A.take i ++ v :: A.drop (i + 1) := by
  refine ⟨?_, by rw [List.set_eq_take_append_cons_drop, if_pos h]⟩
  have := List.set_eq_take_append_cons_drop (l := A) (i := i) (a := A[i])
  rw [if_pos h, List.set_getElem_self] at this
  exact this
theorem Alt.swap2 {m : Nat} {f : List (Row F) → F} (a : Alt m f) {pre mid post : List (Row F)} {u v : Row F} (h : pre.length + mid.length + post.length + 2 = m) : f (pre ++ u :: (mid ++ v :: post)) = -f (pre ++ v :: (mid ++ u :: post)) := by
  have hl : ∀ w : Row F, pre.length + (mid ++ w :: post).length + 1 = m := fun w => by
    rw [List.length_append, List.length_cons]
    omega
  have hl2 : ∀ w : Row F, (pre ++ w :: mid).length + post.length + 1 = m := fun w => by
    rw [List.length_append, List.length_cons]
    omega
  have e1 := a.twice (u := fun j => u j + v j) pre mid post (by omega)
  have ap : ∀ (w x : Row F), pre ++ w :: (mid ++ x :: post) = (pre ++ w :: mid) ++ x :: post := fun w x => by rw [List.append_assoc]; rfl
  rw [a.add pre u v _ (hl _), ap, ap, a.add (pre ++ u :: mid) u v post (hl2 _), a.add (pre ++ v :: mid) u v post (hl2 _), ← ap, ← ap, ← ap, ← ap, a.twice (u := u) pre mid post h, a.twice (u := v) pre mid post h] at e1
  grind
theorem det_mul {A : List (Row F)} {m i : Nat} (hl : A.length = m) (hi : i < A.length) (c : F) : dC (A.set i fun j => c * A[i] j) (List.range m) = c * dC A (List.range m) := by
  obtain ⟨e1, e2⟩ := set_parts hi (fun j => c * A[i] j)
  have a := dC_alt (F := F) (List.range m)
  rw [e2, a.mul (A.take i) c A[i] (A.drop (i + 1)) (by rw [List.length_take, List.length_drop, List.length_range]; omega), ← e1]
theorem det_add {A : List (Row F)} {m i j : Nat} (hl : A.length = m) (hi : i < A.length) (hj : j < A.length) (hij : i ≠ j) : dC (A.set i fun x => A[i] x + A[j] x) (List.range m) = dC A (List.range m) := by
  obtain ⟨e1, e2⟩ := set_parts hi (fun x => A[i] x + A[j] x)
  have a := dC_alt (F := F) (List.range m)
  have hlen : (A.take i).length + (A.drop (i + 1)).length + 1 = (List.range m).length := by rw [List.length_take, List.length_drop, List.length_range]; omega
  have e3 : (fun x => A[i] x + A[j] x) = fun x => A[i] x + (1 : F) * A[j] x := funext fun x => by grind
  rw [e2, e3]
  by_cases h : j < i
  · have hm : A[j] ∈ A.take i := List.mem_of_getElem? (i := j) (by rw [List.getElem?_take, if_pos h, List.getElem?_eq_getElem hj])
    rw [a.clear1 hm hlen, ← e1]
  · have hm : A[j] ∈ A.drop (i + 1) := List.mem_of_getElem? (i := j - (i + 1)) (by rw [List.getElem?_drop, show i + 1 + (j - (i + 1)) = j by omega, List.getElem?_eq_getElem hj])
    rw [a.clear2 hm hlen, ← e1]
theorem det_swp {A : List (Row F)} {m i j : Nat} (hl : A.length = m) (hi : i < A.length) (hj : j < A.length) (hij : i < j) : dC ((A.set i A[j]).set j A[i]) (List.range m) = -dC A (List.range m) := by
  have a := dC_alt (F := F) (List.range m)
  have e1 : A = A.take i ++ A[i] :: ((A.drop (i + 1)).take (j - i - 1) ++ A[j] :: A.drop (j + 1)) := by
    have h1 := (set_parts hi A[i]).1
    have hjd : j - i - 1 < (A.drop (i + 1)).length := by rw [List.length_drop]; omega
    have h2 := (set_parts hjd A[i]).1
    have h3 : (A.drop (i + 1))[j - i - 1] = A[j] := by
      rw [List.getElem_drop]
      congr 1
      omega
    rw [h3, List.drop_drop, show i + 1 + (j - i - 1 + 1) = j + 1 by omega] at h2
    rw [← h2]
    exact h1
  have e2 : (A.set i A[j]).set j A[i] = A.take i ++ A[j] :: ((A.drop (i + 1)).take (j - i - 1) ++ A[i] :: A.drop (j + 1)) := by
    rw [(set_parts hi A[j]).2]
    rw [List.set_append_right _ _ (by rw [List.length_take]; omega), List.length_take, show j - min i A.length = (j - i - 1) + 1 by omega, List.set_cons_succ]
    have hjd : j - i - 1 < (A.drop (i + 1)).length := by rw [List.length_drop]; omega
    rw [(set_parts hjd A[i]).2, List.drop_drop, show i + 1 + (j - i - 1 + 1) = j + 1 by omega]
  have h := a.swap2 (pre := A.take i) (mid := (A.drop (i + 1)).take (j - i - 1)) (post := A.drop (j + 1)) (u := A[j]) (v := A[i]) (by
    rw [List.length_take, List.length_take, List.length_drop, List.length_drop, List.length_range]
    omega)
  rw [e2, h, ← e1]
theorem SF_unit {n i : Nat} (hi : i < n) (f : Nat → F) : SF (fun k => unit i k * f k) n = f i := by
  rw [SF_one (i := i) hi]
  · unfold unit
    rw [if_pos rfl]
    grind
  · intro k _ hk
    unfold unit
    rw [if_neg hk]
    grind
theorem unit_comm (i k : Nat) : (unit i k : F) = unit k i := by
  unfold unit
  by_cases h : k = i
  · rw [if_pos h, if_pos h.symm]
  · rw [if_neg h, if_neg (fun z => h z.symm)]
end Fr
namespace Fm
open Lean.Grind PySem L2 Fr Fd
section
variable {g : Int} {F : Type} [CommRing F]
/-- rows stepped, and the determinant that is due -/
structure StT (W : GV g F) (k m : Nat) (rs : List (List (Int × Int))) (due : Int × Int) : Prop where
  len : rs.length = m
  sz : ∃ D : Int, D ≠ 0 ∧ D.natAbs ≤ 128 ^ k ∧ ∀ r ∈ rs, RZ g D (128 ^ k) m r
  du : ∃ D : Int, D ≠ 0 ∧ D.natAbs ≤ 128 ^ k ∧ TZ g D (128 ^ k) due
  val : W.e due = dC (rs.map (er W)) (List.range m)
  det : dC (rs.map (er W)) (List.range m) ≠ 0
variable {W : GV g F} {k m : Nat} {rs : List (List (Int × Int))} {due : Int × Int}
theorem StT.start (hg : g = 0 ∨ Gr5 g) : StT W 0 m (onesF m) (1, 1) := by
  have e : dC ((onesF m).map (er W)) (List.range m) = 1 := by rw [er_onesF, dC_units _ List.nodup_range]
  exact ⟨by unfold onesF; rw [List.length_map, List.length_range], ⟨1, by decide, by decide, rz_ones hg⟩, ⟨1, by decide, by decide, TZ.one hg⟩, by rw [e, W.one], by rw [e]; exact W.ne⟩
theorem pk_le {k : Nat} : 128 ^ k ≤ 128 ^ (k + 1) := Nat.pow_le_pow_right (by decide) (by omega)
theorem StT.stay (h : StT W k m rs due) : StT W (k + 1) m rs due := by
  obtain ⟨D, d1, d2, d3⟩ := h.sz
  obtain ⟨E, e1, e2, e3⟩ := h.du
  exact ⟨h.len, ⟨D, d1, Nat.le_trans d2 pk_le, fun r hr => ⟨(d3 r hr).1, fun a ha => ((d3 r hr).2 a ha).mono pk_le⟩⟩, ⟨E, e1, Nat.le_trans e2 pk_le, e3.mono pk_le⟩, h.val, h.det⟩
theorem StT.scale (hg : g = 0 ∨ Gr5 g) (h : StT W k m rs due) {i : Nat} {r : List (Int × Int)} (hr : rs[i]? = some r) {x : Int × Int} (hx : TN g 7 x) (x0 : x.1 ≠ 0) : StT W (k + 1) m (rs.set i (r.map fun a => timesF g a x)) (timesF g due x) := by
  obtain ⟨D, d1, d2, d3⟩ := h.sz
  obtain ⟨E, e1, e2, e3⟩ := h.du
  have hi := (List.getElem?_eq_some_iff.mp hr).1
  have hp := hx.pos
  have tx := TZ.of hg hx (by decide)
  have b1 : x.1.natAbs ≤ 128 := Nat.le_of_lt hx.2.1
  have b2 : x.2.natAbs ≤ 128 := Nat.le_of_lt hx.2.2
  have rr := d3 r (List.mem_of_getElem? hr)
  have up : ∀ {a b : Nat}, a ≤ 128 ^ k → b ≤ 128 → a * b ≤ 128 ^ (k + 1) := fun ha hb => by
    rw [Nat.pow_succ]
    exact Nat.mul_le_mul ha hb
  obtain ⟨l2, l24, t2⟩ := e3.1
  have hx0 : W.e x ≠ 0 := fun z => by
    have := W.inj hg hx (tn_zero hg) (by rw [z, W.zero])
    rw [this] at x0
    exact x0 rfl
  have ev : er W (r.map fun a => timesF g a x) = fun j => W.e x * er W r j := er_times hg rr tx
  have hiA : i < (rs.map (er W)).length := by rw [List.length_map]; exact hi
  have hA : (rs.map (er W))[i] = er W r := by
    rw [List.getElem_map]
    congr 1
    rw [List.getElem?_eq_getElem hi] at hr
    exact Option.some.inj hr
  have hd : dC ((rs.set i (r.map fun a => timesF g a x)).map (er W)) (List.range m) = W.e x * dC (rs.map (er W)) (List.range m) := by
    rw [List.map_set, ev, ← hA]
    exact det_mul (by rw [List.length_map, h.len]) hiA (W.e x)
  refine ⟨by rw [List.length_set, h.len], ⟨D * x.2, Int.mul_ne_zero d1 (by omega), by rw [Int.natAbs_mul]; exact up d2 b2, fun q hq => ?_⟩, ⟨E * x.2, Int.mul_ne_zero e1 (by omega), by rw [Int.natAbs_mul]; exact up e2 b2, (e3.times hg tx).mono (up (Nat.le_refl _) b1)⟩, ?_, ?_⟩
  · rcases List.mem_or_eq_of_mem_set hq with hq | rfl
    · exact ⟨(d3 q hq).1, fun a ha => (((d3 q hq).2 a ha).wide x.2).mono (up (Nat.le_refl _) b2)⟩
    · have := rz_times hg rr tx
      exact ⟨this.1, fun a ha => (this.2 a ha).mono (up (Nat.le_refl _) b1)⟩
  · rw [W.times hg t2 hx, h.val, hd]
    grind
  · rw [hd]
    exact fun z => h.det (W.dom z hx0)
theorem StT.plus (hg : g = 0 ∨ Gr5 g) (h : StT W k m rs due) {i j : Nat} {r s : List (Int × Int)} (hr : rs[i]? = some r) (hs : rs[j]? = some s) (hij : i ≠ j) : StT W (k + 1) m (rs.set i (List.zipWith (plusF g) r s)) due := by
  obtain ⟨D, d1, d2, d3⟩ := h.sz
  obtain ⟨E, e1, e2, e3⟩ := h.du
  have hi := (List.getElem?_eq_some_iff.mp hr).1
  have hj := (List.getElem?_eq_some_iff.mp hs).1
  have rr := d3 r (List.mem_of_getElem? hr)
  have ss := d3 s (List.mem_of_getElem? hs)
  have hA : ∀ {i : Nat} {r : List (Int × Int)} (hi : i < rs.length), rs[i]? = some r → (rs.map (er W))[i]'(by rw [List.length_map]; exact hi) = er W r := fun hi hr => by
    rw [List.getElem_map]
    congr 1
    rw [List.getElem?_eq_getElem hi] at hr
    exact Option.some.inj hr
  have hd : dC ((rs.set i (List.zipWith (plusF g) r s)).map (er W)) (List.range m) = dC (rs.map (er W)) (List.range m) := by
    rw [List.map_set, er_plus hg rr ss, ← hA hi hr, ← hA hj hs]
    exact det_add (by rw [List.length_map, h.len]) _ _ hij
  refine ⟨by rw [List.length_set, h.len], ⟨D, d1, Nat.le_trans d2 pk_le, fun q hq => ?_⟩, ⟨E, e1, Nat.le_trans e2 pk_le, e3.mono pk_le⟩, by rw [h.val, hd], by rw [hd]; exact h.det⟩
  rcases List.mem_or_eq_of_mem_set hq with hq | rfl
  · exact ⟨(d3 q hq).1, fun a ha => ((d3 q hq).2 a ha).mono pk_le⟩
  · have := rz_plus hg rr ss
    exact ⟨this.1, fun a ha => (this.2 a ha).mono (by rw [Nat.pow_succ]; omega)⟩
theorem StT.swap (hg : g = 0 ∨ Gr5 g) (h : StT W k m rs due) {i j : Nat} {r s : List (Int × Int)} (hr : rs[i]? = some r) (hs : rs[j]? = some s) (hij : i ≠ j) : StT W (k + 1) m ((rs.set i s).set j r) (minusF g due) := by
  obtain ⟨D, d1, d2, d3⟩ := h.sz
  obtain ⟨E, e1, e2, e3⟩ := h.du
  obtain ⟨l2, l24, t2⟩ := e3.1
  have hi := (List.getElem?_eq_some_iff.mp hr).1
  have hj := (List.getElem?_eq_some_iff.mp hs).1
  have hA : ∀ {i : Nat} {r : List (Int × Int)} (hi : i < rs.length), rs[i]? = some r → (rs.map (er W))[i]'(by rw [List.length_map]; exact hi) = er W r := fun hi hr => by
    rw [List.getElem_map]
    congr 1
    rw [List.getElem?_eq_getElem hi] at hr
    exact Option.some.inj hr
  have hl : (rs.map (er W)).length = m := by rw [List.length_map, h.len]
  have hd : dC (((rs.set i s).set j r).map (er W)) (List.range m) = -dC (rs.map (er W)) (List.range m) := by
    rw [List.map_set, List.map_set]
    rcases Nat.lt_or_gt_of_ne hij with hlt | hgt
    · rw [← hA hi hr, ← hA hj hs]
      exact det_swp hl _ _ hlt
    · rw [List.set_comm _ _ hij, ← hA hi hr, ← hA hj hs]
      exact det_swp hl _ _ hgt
  refine ⟨by rw [List.length_set, List.length_set, h.len], ⟨D, d1, Nat.le_trans d2 pk_le, fun q hq => ?_⟩, ⟨E, e1, Nat.le_trans e2 pk_le, (e3.minus hg).mono pk_le⟩, ?_, ?_⟩
  · have hq2 : q ∈ rs := by
      rcases List.mem_or_eq_of_mem_set hq with hq | rfl
      · rcases List.mem_or_eq_of_mem_set hq with hq | rfl
        · exact hq
        · exact List.mem_of_getElem? hs
      · exact List.mem_of_getElem? hr
    exact ⟨(d3 q hq2).1, fun a ha => ((d3 q hq2).2 a ha).mono pk_le⟩
  · rw [W.minus hg t2, h.val, hd]
  · rw [hd]
    intro z
    exact h.det (by grind)
theorem acc_set {α : Type} {P : Hp → V → α → Prop} {H : Hp} {ys : List V} {as : List α} {n i : Nat} {v : V} {a : α} (h : Acc P H ys as n) (hi : i < ys.length) (hv : P H v a) : Acc P H (ys.set i v) (as.set i a) n := by
  refine ⟨by rw [List.length_set]; exact h.1, fun j x c h1 h2 => ?_⟩
  rw [List.getElem?_set] at h1 h2
  by_cases e : i = j
  · rw [if_pos e] at h1 h2
    split at h1
    · split at h2
      · cases Option.some.inj h1
        cases Option.some.inj h2
        exact hv
      · cases h2
    · rename_i hn
      exact absurd hi hn
  · rw [if_neg e] at h1 h2
    exact h.2 j x c h1 h2
theorem p128 {k : Nat} (h : k ≤ 30) : 128 ^ k ≤ 2 ^ 210 := by
  rw [show (128 : Nat) = 2 ^ 7 from rfl, ← Nat.pow_mul]
  exact Nat.pow_le_pow_right (by decide) (by omega)
theorem lt211 {a : Nat} (h : a ≤ 2 ^ 210) : a < 2 ^ 211 := by
  rw [show (211 : Nat) = 210 + 1 from rfl, Nat.pow_succ]
  have : 0 < 2 ^ 210 := Nat.pow_pos (by decide)
  omega
/-- what stands in an invariant is small -/
theorem StT.be (hg : g = 0 ∨ Gr5 g) (h : StT W k m rs due) (hk : k ≤ 30) : (∀ r ∈ rs, r.length = m ∧ ∀ a ∈ r, PBe a) ∧ PBe due ∧ TN g 211 due := by
  obtain ⟨D, d1, d2, d3⟩ := h.sz
  obtain ⟨E, e1, e2, e3⟩ := h.du
  have hp := lt211 (p128 hk)
  have td := e3.tn hg (show 4 ≤ 211 by decide) e1 (Nat.lt_of_le_of_lt e2 hp) hp
  exact ⟨fun r hr => ⟨(d3 r hr).1, (d3 r hr).be hg (show 4 ≤ 211 by decide) (by decide) d1 (Nat.lt_of_le_of_lt d2 hp) hp⟩, td.be (by decide), td⟩
end
end Fm

namespace Fm
open Lean.Grind PySem L2 Fr Fd
section
variable {g : Int} {F : Type} [CommRing F] {V : GV g F}
theorem cell_tz (hg : g = 0 ∨ Gr5 g) {D D' : Int} {M M' : Nat} : ∀ (r s : List (Int × Int)) (p : Int × Int) (N : Nat), r.length = s.length → (∀ a ∈ r, TZ g D M a) → (∀ a ∈ s, TZ g D' M' a) → TZ g (D * D') N p →
    TZ g (D * D') (N + r.length * (M * M')) ((List.zipWith (timesF g) r s).foldl (plusF g) p) ∧ V.e ((List.zipWith (timesF g) r s).foldl (plusF g) p) = V.e p + SF (fun j => er V r j * er V s j) r.length
  | [], s, p, N, _, _, _, hp => by
    refine ⟨by simpa using hp, ?_⟩
    show V.e p = V.e p + 0
    grind
  | a :: r, [], p, N, h, _, _, _ => by simp at h
  | a :: r, c :: s, p, N, h, hr, hs, hp => by
    have ta := hr a List.mem_cons_self
    have tc := hs c List.mem_cons_self
    have tt := ta.times hg tc
    have tp := hp.plus hg tt
    obtain ⟨h1, h2⟩ := cell_tz hg r s (plusF g p (timesF g a c)) (N + M * M') (by simpa using h) (fun x hx => hr x (List.mem_cons_of_mem _ hx)) (fun x hx => hs x (List.mem_cons_of_mem _ hx)) tp
    obtain ⟨l1, _, n1⟩ := ta.1
    obtain ⟨l2, _, n2⟩ := tc.1
    obtain ⟨l3, _, n3⟩ := hp.1
    obtain ⟨l4, _, n4⟩ := tt.1
    refine ⟨?_, ?_⟩
    · have : N + (a :: r).length * (M * M') = N + M * M' + r.length * (M * M') := by rw [List.length_cons, Nat.add_mul]; omega
      rw [this]
      exact h1
    · show V.e ((List.zipWith (timesF g) r s).foldl (plusF g) (plusF g p (timesF g a c))) = _
      rw [h2, V.plus hg n3 n4, V.times hg n1 n2, List.length_cons, SF_front]
      show V.e p + V.e a * V.e c + SF (fun j => er V r j * er V s j) r.length = V.e p + (V.e a * V.e c + SF (fun j => er V r j * er V s j) r.length)
      grind
end
end Fm

namespace Fm
open Lean.Grind PySem L2 Fr Fd
/-! ### a class of the program's own: Form -/
def clsB : Stmt → List Stmt
  | .ClassDef (body := b) .. => b
  | _ => []
structure FormC (K : PySem.W.Frag) : Prop where
  c : Cls K (He.ga K "Form")
  nt : NoAttr K (He.ga K "Form") "table"
  ng : NoAttr K (He.ga K "Form") "ground"
/-- a form of the ground g, with that table -/
def FormV (K : PySem.W.Frag) (H : Hp) (f : V) (g : Int) (tv : V) : Prop := ∃ p dx, f = .ref p ∧ H p = some (.ins (He.ga K "Form") dx [("table", tv), ("ground", .int g)])
theorem FormV.sm {K : PySem.W.Frag} {H H' : Hp} {f : V} {g : Int} {tv : V} (h : FormV K H f g tv) (s : Same H H') : FormV K H' f g tv := by
  obtain ⟨p, dx, e, hp⟩ := h
  exact ⟨p, dx, e, s _ _ hp⟩
theorem FormV.mv {K : PySem.W.Frag} {H H' : Hp} {b : Addr} {f : V} {g : Int} {tv : V} (h : FormV K H f g tv) (m : Mv b H H') (hb : Bag H b) : FormV K H' f g tv := by
  obtain ⟨p, dx, e, hp⟩ := h
  obtain ⟨A, B, hb, _⟩ := hb
  refine ⟨p, dx, e, m _ _ (fun z => ?_) hp⟩
  rw [z, hb] at hp
  cases hp
theorem FormV.upd {K : PySem.W.Frag} {H : Hp} {D : Addr} {xs ys : List V} {f : V} {g : Int} {tv : V} (h : FormV K H f g tv) (hD : H D = some (.lst xs)) : FormV K (upd H D (.lst ys)) f g tv := by
  obtain ⟨p, dx, e, hp⟩ := h
  refine ⟨p, dx, e, ?_⟩
  rw [upd_ne (fun z => by rw [z, hD] at hp; cases hp)]
  exact hp
theorem w_fld {K : PySem.W.Frag} {ta : TE} {f : Str} {σ : L2.St} {H : Hp} {Q : VK} (h : ta σ H fun x H1 => ∃ a C dx fs v, x = .ref a ∧ H1 a = some (.ins C dx fs) ∧ Cls K C ∧ NoAttr K C f ∧ fs.lookup f = some v ∧ Q v H1) : tFld K ta f σ H Q := h
theorem w_tab {K : PySem.W.Frag} {H : Hp} {x tv : V} {g : Int} {Q : V → Prop} (CF : FormC K) (h : FormV K H x g tv) (q : Q tv) : ∃ a C dx fs v, x = .ref a ∧ H a = some (.ins C dx fs) ∧ Cls K C ∧ NoAttr K C "table" ∧ fs.lookup ("table" : Str) = some v ∧ Q v := by
  obtain ⟨p, dx, rfl, hp⟩ := h
  exact ⟨p, _, dx, _, tv, rfl, hp, CF.c, CF.nt, rfl, q⟩
theorem w_gnd {K : PySem.W.Frag} {H : Hp} {x tv : V} {g : Int} {Q : V → Prop} (CF : FormC K) (h : FormV K H x g tv) (q : Q (.int g)) : ∃ a C dx fs v, x = .ref a ∧ H a = some (.ins C dx fs) ∧ Cls K C ∧ NoAttr K C "ground" ∧ fs.lookup ("ground" : Str) = some v ∧ Q v := by
  obtain ⟨p, dx, rfl, hp⟩ := h
  exact ⟨p, _, dx, _, .int g, rfl, hp, CF.c, CF.ng, rfl, q⟩
theorem w_setF {K : PySem.W.Frag} {ta tv : TE} {f : Str} {D : Ends} {σ : L2.St} {H : Hp} (h : tv σ H fun y H1 => ta σ H1 fun x H2 => ∃ a C dx fs, x = .ref a ∧ H2 a = some (.ins C dx fs) ∧ Cls K C ∧ NoAttr K C f ∧ fs.length < 1000 ∧ D.nx σ (upd H2 a (.ins C dx (putF f y fs)))) : sFld K ta tv f D σ H := h
theorem w_makeN {C : Addr} {n m : Nat} {sp : Sp} {gV : List V → List V → List V} {E : XK} {t tk : TA} {σ : L2.St} {H : Hp} {Q : VK} (h : t σ H fun vs H1 => tk σ H1 fun zs H2 => vs.length = n ∧ zs.length = m ∧
  ∀ x dx, H2 x = none → H2 dx = none → dx ≠ x → sp (gV (.ref x :: vs) zs) (upd (upd H2 dx (.own x)) x (.ins C dx [])) (fun v H3 => v = .non ∧ Q (.ref x) H3) E) : tMakeN C n m sp gV E t tk σ H Q := h
theorem w_make {C : Addr} {sp : Sp} {dvs : List V} {E : XK} {t : TA} {σ : L2.St} {H : Hp} {Q : VK} (h : t σ H fun vs H1 => ∀ x dx, H1 x = none → H1 dx = none → dx ≠ x →
  sp (.ref x :: (vs ++ dvs)) (upd (upd H1 dx (.own x)) x (.ins C dx [])) (fun v H2 => v = .non ∧ Q (.ref x) H2) E) : tMake C sp dvs E t σ H Q := h
theorem made_same0 {H : Hp} {x dx C : Addr} (hx : H x = none) (hdx : H dx = none) : Same H (upd (upd H dx (.own x)) x (.ins C dx [])) := Same.updD (same_upd hdx) hx
theorem made_same {H H' : Hp} {x dx C : Addr} (hx : H x = none) (hdx : H dx = none) (k : ∀ a o, a ≠ x → (upd (upd H dx (.own x)) x (.ins C dx [])) a = some o → H' a = some o) : Same H H' := fun a o h => k a o (fun z => by rw [z, hx] at h; cases h) (made_same0 hx hdx a o h)
/-! ### numbers, rows, tables as things -/
theorem numV_tb {H : Hp} {v : V} {a : Int × Int} {k : Nat} (h : NumV H v a) (h1 : a.1.natAbs < 2 ^ k) (h2 : a.2.natAbs < 2 ^ k) : TB k 1 H v := by
  obtain ⟨p, rfl, hp⟩ := h
  refine TB.tup hp (by simp) fun x hx => ?_
  rcases List.mem_cons.mp hx with rfl | hx
  · exact TB.at h1
  · rw [List.mem_singleton.mp hx]
    exact TB.at h2
theorem rowV_tb {H : Hp} {v : V} {r : List (Int × Int)} {g : Int} {k : Nat} (h : RowV H v r) (hl : r.length ≤ 100) (hr : ∀ a ∈ r, TN g k a) : TB k 2 H v := by
  obtain ⟨p, xs, rfl, hp, hlx, hx⟩ := h
  refine TB.tup hp (by omega) fun x hx' => ?_
  obtain ⟨i, hi⟩ := List.getElem?_of_mem hx'
  have hil := (List.getElem?_eq_some_iff.mp hi).1
  have gr : r[i]? = some (r[i]'(by omega)) := List.getElem?_eq_getElem _
  have := hr _ (List.mem_of_getElem? gr)
  exact numV_tb (hx i x _ hi gr) this.2.1 this.2.2
theorem tabV_tb {H : Hp} {v : V} {t : List (List (Int × Int))} {g : Int} {k : Nat} (h : TabV H v t) (hl : t.length ≤ 100) (hr : ∀ r ∈ t, r.length ≤ 100 ∧ ∀ a ∈ r, TN g k a) : TB k 3 H v := by
  obtain ⟨p, xs, rfl, hp, hlx, hx⟩ := h
  refine TB.tup hp (by omega) fun x hx' => ?_
  obtain ⟨i, hi⟩ := List.getElem?_of_mem hx'
  have hil := (List.getElem?_eq_some_iff.mp hi).1
  have gr : t[i]? = some (t[i]'(by omega)) := List.getElem?_eq_getElem _
  have := hr _ (List.mem_of_getElem? gr)
  exact rowV_tb (hx i x _ hi gr) this.1 this.2
theorem w_isT {K : PySem.W.Frag} {H : Hp} {Q : VK} {p : Addr} {xs : List V} (h : H p = some (.tup xs)) (q : Q (.bl true) H) : rIsi K [.ref p, .ty "tuple"] H Q :=
  isi_is (a := "tuple") (.base (.tup h)) (by rfl) q
theorem w_isL {K : PySem.W.Frag} {H : Hp} {Q : VK} {p : Addr} {xs : List V} (h : H p = some (.lst xs)) (q : Q (.bl true) H) : rIsi K [.ref p, .ty "list"] H Q :=
  isi_is (a := "list") (.base (.lst h)) (by rfl) q
theorem cell_ok2 {g : Int} {k : Nat} {r s : List (Int × Int)} (hg : g = 0 ∨ (3 ≤ g ∧ g ≤ 13)) (hr : ∀ x ∈ r, OkN g k x) (hs : ∀ x ∈ s, OkN g k x) (e1 : k * r.length ≤ 4000) (e2 : k * s.length ≤ 4000) (hk : k ≤ 800) (hl : r.length ≤ 10) :
    (g = 0 ∧ wrB r * wrB s ≠ 0 ∧ (wrB r * wrB s).natAbs < 2 ^ 8500) ∨ (3 ≤ g ∧ (dotF (wrT r) (wrT s)).natAbs < 2 ^ 50000 ∧ ∃ k : Int, 1 ≤ k ∧ k ≤ 13 ∧ (k * (wrB r * wrB s)).fmod g = 1) := by
  have p1 : ∀ x ∈ r, 0 < x.2 := fun x h => (hr x h).pos
  have p2 : ∀ x ∈ s, 0 < x.2 := fun x h => (hs x h).pos
  rcases hg with rfl | ⟨h3, h13⟩
  · refine .inl ⟨rfl, Int.mul_ne_zero (by have := (wrB_spec p1).1; omega) (by have := (wrB_spec p2).1; omega), ?_⟩
    have b1 := wrB_bd (k := k) (r := r) fun x h => ⟨p1 x h, (hr x h).2.1⟩
    have b2 := wrB_bd (k := k) (r := s) fun x h => ⟨p2 x h, (hs x h).2.1⟩
    rw [Int.natAbs_mul]
    refine Nat.lt_of_le_of_lt (Nat.mul_le_mul b1 b2) ?_
    rw [← Nat.pow_add]
    exact Nat.pow_lt_pow_right (by decide) (by omega)
  · have o1 : ∀ x ∈ r, x.2 = 1 := fun x h => by
      rcases (hr x h).2.2 with z | z
      · omega
      · exact z.2.2
    have o2 : ∀ x ∈ s, x.2 = 1 := fun x h => by
      rcases (hs x h).2.2 with z | z
      · omega
      · exact z.2.2
    refine .inr ⟨h3, ?_, 1, by decide, by decide, ?_⟩
    · have b1 := wrT_bd hr
      have b2 := wrT_bd hs
      have c1 : ∀ t ∈ wrT r, t.natAbs ≤ 2 ^ 4800 := fun t h => Nat.le_trans (b1 t h) (Nat.pow_le_pow_right (by decide) (by omega))
      have c2 : ∀ t ∈ wrT s, t.natAbs ≤ 2 ^ 4800 := fun t h => Nat.le_trans (b2 t h) (Nat.pow_le_pow_right (by decide) (by omega))
      have d := dot_bd c1 c2
      rw [wrT_len] at d
      refine Nat.lt_of_le_of_lt (Nat.le_trans d (Nat.mul_le_mul_right _ (show r.length ≤ 2 ^ 4 by omega))) ?_
      rw [← Nat.pow_add]
      exact Nat.pow_lt_pow_right (by decide) (by decide)
    · rw [wrB_one o1, wrB_one o2]
      show (1 : Int).fmod g = 1
      exact fmod_of_lt (by decide) (by omega)
/-! ### bounds by bits -/
theorem pw_mul {a b i j : Nat} (h1 : a ≤ 2 ^ i) (h2 : b ≤ 2 ^ j) : a * b ≤ 2 ^ (i + j) := by
  rw [Nat.pow_add]
  exact Nat.mul_le_mul h1 h2
theorem pw_le {a i j : Nat} (h : a ≤ 2 ^ i) (hij : i ≤ j) : a ≤ 2 ^ j := Nat.le_trans h (Nat.pow_le_pow_right (by decide) hij)
theorem pw_lt {a i j : Nat} (h : a ≤ 2 ^ i) (hij : i < j) : a < 2 ^ j := Nat.lt_of_le_of_lt h (Nat.pow_lt_pow_right (by decide) hij)
theorem pw_add {a b i : Nat} (h1 : a ≤ 2 ^ i) (h2 : b ≤ 2 ^ i) : a + b ≤ 2 ^ (i + 1) := by
  rw [Nat.pow_succ]
  omega
theorem pw_abs {a b : Int} {i j : Nat} (h1 : a.natAbs ≤ 2 ^ i) (h2 : b.natAbs ≤ 2 ^ j) : (a * b).natAbs ≤ 2 ^ (i + j) := by
  rw [Int.natAbs_mul]
  exact pw_mul h1 h2
theorem pw_five {m : Nat} (h : m ≤ 5) : m ≤ 2 ^ 3 ∧ m + 1 ≤ 2 ^ 3 := ⟨Nat.le_trans h (by decide), Nat.le_trans (Nat.succ_le_succ h) (by decide)⟩
end Fm

namespace Fr
open Lean.Grind
variable {F : Type} [CommRing F]
theorem bil_addl {T : List (Row F)} {m : Nat} (u v w : Row F) : bil T m (fun j => u j + v j) w = bil T m u w + bil T m v w := by
  unfold bil
  rw [thr_add, ← SF_add]
  exact SF_congr fun i _ => by grind
theorem bil_mull {T : List (Row F)} {m : Nat} (c : F) (u w : Row F) : bil T m (fun j => c * u j) w = c * bil T m u w := by
  unfold bil
  rw [thr_mul, ← SF_mul]
  exact SF_congr fun i _ => by grind
theorem bil_addr {T : List (Row F)} {m : Nat} (u v w : Row F) : bil T m u (fun j => v j + w j) = bil T m u v + bil T m u w := by
  unfold bil
  rw [← SF_add]
  exact SF_congr fun i _ => by grind
theorem bil_mulr {T : List (Row F)} {m : Nat} (c : F) (u w : Row F) : bil T m u (fun j => c * w j) = c * bil T m u w := by
  unfold bil
  rw [← SF_mul]
  exact SF_congr fun i _ => by grind
theorem bil_comm {T : List (Row F)} {m : Nat} (hT : T.length = m) (hs : SymF T m) (u v : Row F) : bil T m u v = bil T m v u := by
  have key : ∀ u v : Row F, bil T m u v = SF (fun j => SF (fun i => u i * (T.getD i zr) j * v j) m) m := fun u v => by
    unfold bil
    refine SF_congr fun j _ => ?_
    show SF (fun i => u i * (T.getD i zr) j) T.length * v j = _
    rw [hT]
    have : SF (fun i => u i * (T.getD i zr) j) m * v j = v j * SF (fun i => u i * (T.getD i zr) j) m := by grind
    rw [this, ← SF_mul]
    exact SF_congr fun i _ => by grind
  rw [key u v, key v u, SF_comm]
  refine SF_congr fun i hi => SF_congr fun j hj => ?_
  rw [hs j i hj hi]
  grind
/-- maps of rows that keep sums and multiples -/
structure Lin (L : Row F → Row F) : Prop where
  add : ∀ u v : Row F, L (fun j => u j + v j) = fun j => L u j + L v j
  mul : ∀ (c : F) (u : Row F), L (fun j => c * u j) = fun j => c * L u j
theorem Lin.zero {L : Row F → Row F} (h : Lin L) : L (fun _ => 0) = fun _ => 0 := by
  have := h.mul 0 (fun _ => 0)
  have e : (fun j : Nat => (0 : F) * 0) = fun _ => 0 := funext fun _ => by grind
  rw [e] at this
  rw [this]
  exact funext fun _ => by grind
theorem Lin.sum {L : Row F → Row F} (h : Lin L) (c : Nat → F) (w : Nat → Row F) : ∀ n, L (fun j => SF (fun i => c i * w i j) n) = fun j => SF (fun i => c i * L (w i) j) n
  | 0 => h.zero
  | n + 1 => by
    show L (fun j => SF (fun i => c i * w i j) n + c n * w n j) = fun j => SF (fun i => c i * L (w i) j) n + c n * L (w n) j
    rw [h.add (fun j => SF (fun i => c i * w i j) n) (fun j => c n * w n j), h.sum c w n, h.mul]
theorem Lin.id : Lin (fun u : Row F => u) := ⟨fun _ _ => rfl, fun _ _ => rfl⟩
theorem unit_sum {m : Nat} {u : Row F} (hu : ∀ j, m ≤ j → u j = 0) : (fun j => SF (fun i => u i * unit i j) m) = u := funext fun j => by
  by_cases hj : j < m
  · rw [SF_one hj _ fun k _ hk => by
      unfold unit
      rw [if_neg fun z => hk z.symm]
      grind]
    unfold unit
    rw [if_pos rfl]
    grind
  · rw [SF_nul fun i hi => by
      unfold unit
      rw [if_neg (by omega)]
      grind, hu j (by omega)]
/-- a table whose rows are what units are led to leads all rows so -/
theorem thr_lin {T : List (Row F)} {m : Nat} (hT : T.length = m) {L : Row F → Row F} (hL : Lin L) (h : ∀ i, i < m → T.getD i zr = L (unit i)) {u : Row F} (hu : ∀ j, m ≤ j → u j = 0) : thr T u = L u := by
  have e := hL.sum u unit m
  rw [unit_sum hu] at e
  rw [e]
  funext j
  show SF (fun i => u i * (T.getD i zr) j) T.length = _
  rw [hT]
  exact SF_congr fun i hi => by rw [h i hi]
end Fr

namespace Fm
open Lean.Grind PySem L2 Fr Fd
section
variable {g : Int} {F : Type} [CommRing F]
variable {V : GV g F}
theorem rz_turn2 {D : Int} {M n l : Nat} {t : List (List (Int × Int))} (hl : t.length = n) (ht : ∀ r ∈ t, RZ g D M l r) : ∀ r ∈ turnF l t, RZ g D M n r := fun r hr => by
  obtain ⟨j, hj, rfl⟩ := List.mem_map.mp hr
  have hj' := List.mem_range.mp hj
  refine ⟨by rw [List.length_map, hl], fun x hx => ?_⟩
  obtain ⟨q, hq, rfl⟩ := List.mem_map.mp hx
  have hq2 := ht q hq
  refine hq2.2 _ ?_
  show q.getD j (0, 1) ∈ q
  have := hq2.1
  rw [List.getD_eq_getElem?_getD, List.getElem?_eq_getElem (by omega)]
  exact List.getElem_mem (by omega)
theorem prod_tz2 (hg : g = 0 ∨ Gr5 g) {D D' : Int} {M M' n l : Nat} {t1 t2 : List (List (Int × Int))} (hl2 : t2.length = n) (h1 : ∀ r ∈ t1, RZ g D M n r) (h2 : ∀ r ∈ t2, RZ g D' M' l r) :
    (∀ r ∈ (t1.map fun r => (turnF l t2).map (cellF g r)), RZ g (D * D') (n * (M * M')) l r) ∧ (t1.map fun r => (turnF l t2).map (cellF g r)).map (er V) = (t1.map (er V)).map (thr (t2.map (er V))) := by
  have hturn := rz_turn2 hl2 h2
  have key : ∀ r ∈ t1, ∀ s ∈ turnF l t2, TZ g (D * D') (n * (M * M')) (cellF g r s) ∧ V.e (cellF g r s) = SF (fun j => er V r j * er V s j) n := fun r hr s hs => by
    have hr1 := h1 r hr
    have hs1 := hturn s hs
    obtain ⟨a, b⟩ := cell_tz (V := V) hg r s (0, 1) 0 (by rw [hr1.1, hs1.1]) hr1.2 hs1.2 (TZ.zero hg _ 0)
    rw [hr1.1] at a b
    rw [Nat.zero_add] at a
    refine ⟨a, ?_⟩
    unfold cellF
    rw [b, V.zero]
    grind
  refine ⟨fun r hr => ?_, ?_⟩
  · obtain ⟨q, hq, rfl⟩ := List.mem_map.mp hr
    refine ⟨by rw [List.length_map, turn_len], fun a ha => ?_⟩
    obtain ⟨s, hs, rfl⟩ := List.mem_map.mp ha
    exact (key q hq s hs).1
  · rw [List.map_map, List.map_map]
    refine List.map_congr_left fun r hr => funext fun j => ?_
    show er V ((turnF l t2).map (cellF g r)) j = SF (fun i => er V r i * ((t2.map (er V)).getD i zr) j) (t2.map (er V)).length
    rw [List.length_map, hl2]
    by_cases hj : j < l
    · have hjl : j < ((turnF l t2).map (cellF g r)).length := by rw [List.length_map, turn_len]; exact hj
      rw [er_at hjl, List.getElem_map]
      have hg1 : (turnF l t2)[j]'(by rw [turn_len]; exact hj) = t2.map fun row => row.getD j (0, 1) := by
        have := turn_at (t := t2) hj
        rw [List.getElem?_eq_getElem (by rw [turn_len]; exact hj)] at this
        exact Option.some.inj this
      have hm : (t2.map fun row => row.getD j (0, 1)) ∈ turnF l t2 := List.mem_of_getElem? (turn_at hj)
      rw [hg1, (key r hr _ hm).2]
      refine SF_congr fun i hi => ?_
      congr 1
      rw [getD_map (List.getElem?_eq_getElem (by omega))]
      unfold er
      congr 1
      rw [List.getD_eq_getElem?_getD, List.getElem?_map, List.getElem?_eq_getElem (by omega)]
      rfl
    · rw [er_out (by rw [List.length_map, turn_len]; omega), SF_nul fun i hi => ?_]
      have hi2 : i < t2.length := by omega
      have e := er_out (V := V) (r := t2[i]) (j := j) (by have := (h2 _ (List.getElem_mem hi2)).1; omega)
      rw [getD_map (List.getElem?_eq_getElem hi2), e]
      grind

theorem TZ.less {D : Int} {M N : Nat} {a c : Int × Int} (hg : g = 0 ∨ Gr5 g) (ha : TZ g D M a) (hc : TZ g D N c) : TZ g D (M + N) (lessF g a c) := by
  obtain ⟨l, h4, hl⟩ := ha.1
  obtain ⟨m, h5, hm⟩ := hc.1
  rw [← less_eq hg hl hm h4 h5]
  exact ha.plus hg (hc.minus hg)
theorem RZ.mono {D : Int} {M N n : Nat} {r : List (Int × Int)} (h : RZ g D M n r) (hN : M ≤ N) : RZ g D N n r := ⟨h.1, fun a ha => (h.2 a ha).mono hN⟩
theorem RZ.wide {D : Int} {M n : Nat} {r : List (Int × Int)} (h : RZ g D M n r) (c : Int) : RZ g (D * c) (M * c.natAbs) n r := ⟨h.1, fun a ha => (h.2 a ha).wide c⟩
theorem RZ.tn {D : Int} {M n k : Nat} {r : List (Int × Int)} (hg : g = 0 ∨ Gr5 g) (h : RZ g D M n r) (hk : 4 ≤ k) (h0 : D ≠ 0) (hD : D.natAbs < 2 ^ k) (hM : M < 2 ^ k) : ∀ a ∈ r, TN g k a := fun a ha => (h.2 a ha).tn hg hk h0 hD hM
theorem er_sup {n : Nat} {r : List (Int × Int)} (h : r.length = n) : ∀ j, n ≤ j → er V r j = 0 := fun j hj => er_out (by omega)
/-- rows of one size whose values are the same are the same -/
theorem er_injZ (hg : g = 0 ∨ Gr5 g) {D D' : Int} {M N n : Nat} {r s : List (Int × Int)} (hr : RZ g D M n r) (hs : RZ g D' N n s) (h : ∀ j, j < n → er V r j = er V s j) : r = s := by
  refine List.ext_getElem (by rw [hr.1, hs.1]) fun j h1 h2 => ?_
  obtain ⟨⟨l, _, hl⟩, _⟩ := hr.2 _ (List.getElem_mem h1)
  obtain ⟨⟨m, _, hm⟩, _⟩ := hs.2 _ (List.getElem_mem h2)
  refine V.inj hg hl hm ?_
  rw [← er_at h1, ← er_at h2]
  exact h j (by rw [← hr.1]; exact h1)
/-- a form's table turned is itself -/
theorem FrmT.turn (hg : g = 0 ∨ Gr5 g) {W : GV g F} {D : Int} {M m : Nat} {t : List (List (Int × Int))} (f : FrmT W D M m t) : turnF m t = t := by
  have hl := f.len
  refine List.ext_getElem (by rw [turn_len, hl]) fun i h1 h2 => ?_
  have hi : i < m := by omega
  have e1 : (turnF m t)[i] = t.map fun row => row.getD i (0, 1) := by
    have := turn_at (t := t) hi
    rw [List.getElem?_eq_getElem h1] at this
    exact Option.some.inj this
  have hr := f.row _ (List.getElem_mem h2)
  rw [e1]
  refine List.ext_getElem (by rw [List.length_map, hl, hr.1]) fun j h3 h4 => ?_
  have hj : j < m := by rw [List.length_map] at h3; omega
  have hjt : j < t.length := by omega
  have hrj := f.row _ (List.getElem_mem hjt)
  have hij : i < t[j].length := by rw [hrj.1]; exact hi
  rw [List.getElem_map]
  have e2 : t[j].getD i (0, 1) = t[j][i] := by rw [List.getD_eq_getElem?_getD, List.getElem?_eq_getElem hij]; rfl
  rw [e2]
  obtain ⟨⟨l, _, hl1⟩, _⟩ := hrj.2 _ (List.getElem_mem hij)
  obtain ⟨⟨k, _, hl2⟩, _⟩ := hr.2 _ (List.getElem_mem h4)
  refine W.inj hg hl1 hl2 ?_
  have hs := f.sym j i hj hi
  rw [getD_map (List.getElem?_eq_getElem hjt), getD_map (List.getElem?_eq_getElem h2), er_at hij, er_at h4] at hs
  exact hs
/-- products of rows, as the program tells them -/
theorem prods_tz (hg : g = 0 ∨ Gr5 g) {Dr Dt Ds : Int} {Mr Mt Ms m : Nat} {rs t ss : List (List (Int × Int))} (hl : t.length = m) (h1 : ∀ r ∈ rs, RZ g Dr Mr m r) (h2 : ∀ r ∈ t, RZ g Dt Mt m r) (h3 : ∀ r ∈ ss, RZ g Ds Ms m r) {T : List (List (Int × Int))}
    (hT : T = (rs.map fun r => (turnF m t).map (cellF g r)).map fun r => (turnF ss.length (turnF m ss)).map (cellF g r)) :
    T.length = rs.length ∧ (∀ r ∈ T, RZ g (Dr * Dt * Ds) (m * (m * (Mr * Mt) * Ms)) ss.length r) ∧ ∀ (i j : Nat) (r s q : List (Int × Int)), rs[i]? = some r → ss[j]? = some s → T[i]? = some q → er V q j = bil (t.map (er V)) m (er V r) (er V s) := by
  obtain ⟨a1, a2⟩ := prod_tz2 (V := V) hg hl h1 h2
  have hss := rz_turn2 rfl h3
  obtain ⟨b1, b2⟩ := prod_tz2 (V := V) hg (turn_len (l := m) (t := ss)) a1 hss
  refine ⟨by rw [hT, List.length_map, List.length_map], fun r hr => b1 r (by rw [← hT]; exact hr), fun i j r s q hr hs hq => ?_⟩
  have hjl := (List.getElem?_eq_some_iff.mp hs).1
  have e : (T.map (er V))[i]? = some (er V q) := by rw [List.getElem?_map, hq]; rfl
  rw [hT, b2, a2, List.getElem?_map, List.getElem?_map, List.getElem?_map, hr] at e
  have e2 : thr ((turnF m ss).map (er V)) (thr (t.map (er V)) (er V r)) = er V q := Option.some.inj e
  rw [← e2]
  show SF (fun i => thr (t.map (er V)) (er V r) i * (((turnF m ss).map (er V)).getD i zr) j) ((turnF m ss).map (er V)).length = SF (fun j => thr (t.map (er V)) (er V r) j * er V s j) m
  rw [List.length_map, turn_len]
  refine SF_congr fun k hk => ?_
  congr 1
  rw [getD_map (turn_at hk)]
  have hsj : s = ss[j] := by
    rw [List.getElem?_eq_getElem hjl] at hs
    exact (Option.some.inj hs).symm
  rw [er_at (show j < (ss.map fun row => row.getD k (0, 1)).length by rw [List.length_map]; exact hjl), List.getElem_map, er_ga, hsj]
/-- what times x is -2 -/
noncomputable def hv (W : GV g F) (x : F) : F := @Classical.epsilon F ⟨0⟩ fun y => y * x = W.i (-2)
theorem hv_ok (W : GV g F) {x : F} (hx : x ≠ 0) : hv W x * x = W.i (-2) := by
  have : ∃ y, y * x = W.i (-2) := by
    obtain ⟨y, hy⟩ := W.inv x hx
    exact ⟨W.i (-2) * y, by grind⟩
  exact Classical.epsilon_spec this
theorem hv_is (W : GV g F) {x c : F} (hx : x ≠ 0) (h : c * x = W.i (-2)) : c = hv W x := W.cancel (h.trans (hv_ok W hx).symm) hx
theorem i_two (W : GV g F) : W.i (-2) = -1 + -1 := by rw [show (-2 : Int) = -1 + -1 from rfl, W.iadd, W.ineg, W.i1]
/-- the mirror by a row -/
noncomputable def mirF (W : GV g F) (B : List (Row F)) (m : Nat) (r u : Row F) : Row F := fun j => u j + hv W (bil B m r r) * bil B m u r * r j
noncomputable def mirsF (W : GV g F) (B : List (Row F)) (m : Nat) (rs : List (Row F)) (u : Row F) : Row F := rs.foldl (fun u r => mirF W B m r u) u
theorem mir_lin (W : GV g F) (B : List (Row F)) (m : Nat) (r : Row F) : Lin (mirF W B m r) := ⟨fun u v => funext fun j => by unfold mirF; rw [bil_addl]; grind, fun c u => funext fun j => by unfold mirF; rw [bil_mull]; grind⟩
theorem mirs_snoc (W : GV g F) (B : List (Row F)) (m : Nat) (rs : List (Row F)) (r u : Row F) : mirsF W B m (rs ++ [r]) u = mirF W B m r (mirsF W B m rs u) := by
  unfold mirsF
  rw [List.foldl_append]
  rfl
/-- a mirror keeps worths and products -/
theorem mir_keeps (W : GV g F) {B : List (Row F)} {m : Nat} (hB : B.length = m) (hs : SymF B m) {r : Row F} (hr : bil B m r r ≠ 0) (u v : Row F) : bil B m (mirF W B m r u) (mirF W B m r v) = bil B m u v := by
  unfold mirF
  rw [bil_addl, bil_addr, bil_addr, bil_mull, bil_mulr, bil_mull, bil_mulr]
  have h := hv_ok W hr
  rw [i_two] at h
  rw [bil_comm hB hs r v]
  grind
end
end Fm

namespace Fm
open Lean.Grind PySem L2 Fr Fd
section
variable {g : Int} {F : Type} [CommRing F]
/-! ### values as whole numbers over one bottom -/
def ZV (W : GV g F) (D : Int) (M : Nat) (x : F) : Prop := ∃ z : Int, x * W.i D = W.i z ∧ z.natAbs ≤ M
variable {W : GV g F}
theorem ZV.zero (D : Int) (M : Nat) : ZV W D M 0 := ⟨0, by rw [W.i0]; grind, Nat.zero_le _⟩
theorem ZV.one : ZV W 1 1 1 := ⟨1, by rw [W.i1]; grind, by decide⟩
theorem ZV.mono {D : Int} {M N : Nat} {x : F} (h : ZV W D M x) (hN : M ≤ N) : ZV W D N x := by
  obtain ⟨z, h1, h2⟩ := h
  exact ⟨z, h1, Nat.le_trans h2 hN⟩
theorem ZV.add {D : Int} {M N : Nat} {x y : F} (hx : ZV W D M x) (hy : ZV W D N y) : ZV W D (M + N) (x + y) := by
  obtain ⟨z, h1, h2⟩ := hx
  obtain ⟨w, h3, h4⟩ := hy
  exact ⟨z + w, by rw [W.iadd, ← h1, ← h3]; grind, by omega⟩
theorem ZV.mul {D D' : Int} {M N : Nat} {x y : F} (hx : ZV W D M x) (hy : ZV W D' N y) : ZV W (D * D') (M * N) (x * y) := by
  obtain ⟨z, h1, h2⟩ := hx
  obtain ⟨w, h3, h4⟩ := hy
  exact ⟨z * w, by rw [W.imul, W.imul, ← h1, ← h3]; grind, by rw [Int.natAbs_mul]; exact Nat.mul_le_mul h2 h4⟩
theorem ZV.wide {D : Int} {M : Nat} {x : F} (hx : ZV W D M x) (c : Int) : ZV W (D * c) (M * c.natAbs) x := by
  obtain ⟨z, h1, h2⟩ := hx
  exact ⟨z * c, by rw [W.imul, W.imul, ← h1]; grind, by rw [Int.natAbs_mul]; exact Nat.mul_le_mul_right _ h2⟩
theorem ZV.sum {D : Int} {M : Nat} {f : Nat → F} : ∀ {n : Nat}, (∀ i, i < n → ZV W D M (f i)) → ZV W D (n * M) (SF f n)
  | 0, _ => ZV.zero D _
  | n + 1, h => by
    have := (ZV.sum (n := n) fun i hi => h i (by omega)).add (h n (by omega))
    rw [Nat.succ_mul]
    exact this
theorem ZV.ne {D : Int} {M : Nat} {x : F} (hD : D ≠ 0) (hg : g = 0) (hx : x ≠ 0) {z : Int} (h : x * W.i D = W.i z) : z ≠ 0 := fun e => by
  rw [e, W.i0] at h
  exact W.ine hD (fun q => absurd hg q) (W.dom h hx)
theorem zv_unit (i j : Nat) : ZV W 1 1 (unit i j) := by
  unfold unit
  split
  · exact ZV.one
  · exact ZV.zero _ _
theorem zv_thr {Dt Du : Int} {Mt Mu m : Nat} {t : List (Row F)} {u : Row F} (hl : t.length = m) (ht : ∀ i, i < m → ∀ j, ZV W Dt Mt ((t.getD i zr) j)) (hu : ∀ i, ZV W Du Mu (u i)) (j : Nat) : ZV W (Du * Dt) (m * (Mu * Mt)) (thr t u j) := by
  show ZV W (Du * Dt) (m * (Mu * Mt)) (SF (fun i => u i * (t.getD i zr) j) t.length)
  rw [hl]
  exact ZV.sum fun i hi => (hu i).mul (ht i hi j)
theorem zv_bil {Dt Du Dv : Int} {Mt Mu Mv m : Nat} {t : List (Row F)} {u v : Row F} (hl : t.length = m) (ht : ∀ i, i < m → ∀ j, ZV W Dt Mt ((t.getD i zr) j)) (hu : ∀ i, ZV W Du Mu (u i)) (hv : ∀ i, ZV W Dv Mv (v i)) : ZV W (Du * Dt * Dv) (m * (m * (Mu * Mt) * Mv)) (bil t m u v) :=
  ZV.sum fun j _ => (zv_thr hl ht hu j).mul (hv j)
theorem TZ.zv (hg0 : g = 0) {D : Int} {M : Nat} {a : Int × Int} (h : TZ g D M a) : ZV W D M (W.e a) := by
  subst hg0
  obtain ⟨z, _, h2, h3⟩ := TZ.val (V := W) h
  exact ⟨z, h2, h3⟩
theorem RZ.zv (hg0 : g = 0) {D : Int} {M n : Nat} {r : List (Int × Int)} (h : RZ g D M n r) (j : Nat) : ZV W D M (er W r j) := by
  by_cases hj : j < r.length
  · rw [er_at hj]
    exact (h.2 _ (List.getElem_mem hj)).zv hg0
  · rw [er_out (by omega)]
    exact ZV.zero _ _
theorem tz_of {D : Int} {M : Nat} {a : Int × Int} (h : ∃ l, 4 ≤ l ∧ TN g l a) (hz : g = 0 → ZV W D M (W.e a)) : TZ g D M a := by
  obtain ⟨l, h4, hl⟩ := h
  by_cases hg0 : g = 0
  · subst hg0
    obtain ⟨z, h1, h2⟩ := hz rfl
    exact TZ.ofv h4 hl h1 h2
  · exact ⟨⟨l, h4, hl⟩, fun e => absurd e hg0⟩
/-! ### mirrors by multiples -/
theorem mir_scale (W : GV g F) {B : List (Row F)} {m : Nat} {r : Row F} {k : F} (hk : k ≠ 0) (hr : bil B m r r ≠ 0) : mirF W B m (fun j => k * r j) = mirF W B m r := by
  have e : bil B m (fun j => k * r j) (fun j => k * r j) = k * k * bil B m r r := by
    rw [bil_mull, bil_mulr]
    grind
  have hne : k * k * bil B m r r ≠ 0 := fun z => by
    have h1 : k * k ≠ 0 := fun y => hk (W.dom y hk)
    exact hr (W.dom z h1)
  have h := hv_ok W hne
  have h2 : hv W (k * k * bil B m r r) * (k * k) = hv W (bil B m r r) := hv_is W hr (by rw [← h]; grind)
  funext u j
  unfold mirF
  rw [e, bil_mulr, ← h2]
  grind
/-- how many bits a mirror's table may have -/
def mirE (dt et dr er : Nat) : Nat := 5 + et + 2 * er + dt + 2 * dr
/-- tables whose rows are what a mirror leads letters to -/
def MirT (W : GV g F) (B : List (Row F)) (m : Nat) (r : Row F) (T : List (List (Int × Int))) : Prop := T.length = m ∧ (∀ q ∈ T, q.length = m ∧ ∀ a ∈ q, ∃ l, 4 ≤ l ∧ TN g l a) ∧ ∀ i, i < m → (T.map (er W)).getD i zr = mirF W B m r (unit i)
/-- they are no greater than that -/
theorem mir_sz (hg : g = 0 ∨ Gr5 g) {t : List (List (Int × Int))} {r : List (Int × Int)} {m : Nat} {Dt Dr : Int} {Mt Mr dt et dr er' : Nat} (hm : m ≤ 5) (htl : t.length = m) (ht : ∀ q ∈ t, RZ g Dt Mt m q) (hr : RZ g Dr Mr m r) (hDt : Dt ≠ 0) (hDr : Dr ≠ 0) (bDt : Dt.natAbs ≤ 2 ^ dt) (bMt : Mt ≤ 2 ^ et) (bDr : Dr.natAbs ≤ 2 ^ dr) (bMr : Mr ≤ 2 ^ er') (hw : bil (t.map (er W)) m (er W r) (er W r) ≠ 0) :
    ∃ C : Int, C ≠ 0 ∧ C.natAbs ≤ 2 ^ mirE dt et dr er' ∧ ∀ T, MirT W (t.map (er W)) m (er W r) T → ∀ q ∈ T, RZ g C (2 ^ (mirE dt et dr er' + 2)) m q := by
  by_cases hg0 : g = 0
  · have htz : ∀ i, i < m → ∀ j, ZV W Dt Mt (((t.map (er W)).getD i zr) j) := fun i hi j => by
      rw [getD_map (List.getElem?_eq_getElem (by omega))]
      exact (ht _ (List.getElem_mem (by omega))).zv hg0 j
    have hB : (t.map (er W)).length = m := by rw [List.length_map]; exact htl
    have hrz : ∀ j, ZV W Dr Mr (er W r j) := fun j => hr.zv hg0 j
    obtain ⟨zq, e1, b1⟩ := zv_bil hB htz hrz hrz
    have hDq : Dr * Dt * Dr ≠ 0 := Int.mul_ne_zero (Int.mul_ne_zero hDr hDt) hDr
    have hzq := ZV.ne (M := 0) hDq hg0 hw e1
    have hmm : m * m ≤ 2 ^ 5 := by
      rcases (by omega : m = 0 ∨ m = 1 ∨ m = 2 ∨ m = 3 ∨ m = 4 ∨ m = 5) with rfl | rfl | rfl | rfl | rfl | rfl <;> decide
    have c1 : m * (m * (Mr * Mt) * Mr) ≤ 2 ^ (5 + et + 2 * er') := by
      have : m * (m * (Mr * Mt) * Mr) = m * m * (Mr * Mt * Mr) := by ac_rfl
      rw [this]
      exact pw_le (pw_mul hmm (pw_mul (pw_mul bMr bMt) bMr)) (by omega)
    have c2 : (Dr * Dt * Dr).natAbs ≤ 2 ^ (dt + 2 * dr) := pw_le (pw_abs (pw_abs bDr bDt) bDr) (by omega)
    have c3 : (1 * Dt * Dr).natAbs ≤ 2 ^ (dt + dr) := by
      rw [Int.one_mul]
      exact pw_abs bDt bDr
    have hC0 : zq * (1 * Dt * Dr) * Dr ≠ 0 := Int.mul_ne_zero (Int.mul_ne_zero hzq (Int.mul_ne_zero (Int.mul_ne_zero (by decide) hDt) hDr)) hDr
    have hCb : (zq * (1 * Dt * Dr) * Dr).natAbs ≤ 2 ^ mirE dt et dr er' := by
      unfold mirE
      exact pw_le (pw_abs (pw_abs (Nat.le_trans b1 c1) c3) bDr) (by omega)
    refine ⟨_, hC0, hCb, fun T hT q hq => ?_⟩
    obtain ⟨hTl, hTn, hTe⟩ := hT
    refine ⟨(hTn q hq).1, fun a ha => tz_of (W := W) ((hTn q hq).2 a ha) fun _ => ?_⟩
    obtain ⟨i, hi⟩ := List.getElem?_of_mem hq
    have him := (List.getElem?_eq_some_iff.mp hi).1
    obtain ⟨j, hj⟩ := List.getElem?_of_mem ha
    have hjm := (List.getElem?_eq_some_iff.mp hj).1
    have ev : W.e a = mirF W (t.map (er W)) m (er W r) (unit i) j := by
      rw [← hTe i (by omega), getD_map hi, er_at hjm]
      rw [List.getElem?_eq_getElem hjm] at hj
      rw [Option.some.inj hj]
    obtain ⟨zb, e2, b2⟩ := zv_bil (u := unit i) hB htz (fun k => zv_unit i k) hrz
    obtain ⟨zr', e3, b3⟩ := hrz j
    obtain ⟨zu, e4, b4⟩ := zv_unit (W := W) i j
    rw [ev]
    have hh := hv_ok W hw
    have hz : hv W (bil (t.map (er W)) m (er W r) (er W r)) * W.i zq = W.i (-2) * W.i (Dr * Dt * Dr) := by
      rw [← e1, ← hh]
      grind
    refine ⟨zu * (zq * (1 * Dt * Dr) * Dr) + -2 * (Dr * Dt * Dr) * zb * zr', ?_, ?_⟩
    · unfold mirF
      have e4' : (unit i j : F) = W.i zu := by rw [← e4, W.i1]; grind
      have x1 : W.i (zq * (1 * Dt * Dr) * Dr) = W.i zq * W.i (1 * Dt * Dr) * W.i Dr := by rw [W.imul, W.imul zq]
      have x2 : W.i (zu * (zq * (1 * Dt * Dr) * Dr) + -2 * (Dr * Dt * Dr) * zb * zr') = W.i zu * (W.i zq * W.i (1 * Dt * Dr) * W.i Dr) + W.i (-2) * W.i (Dr * Dt * Dr) * W.i zb * W.i zr' := by
        rw [W.iadd, W.imul zu, x1, W.imul (-2 * (Dr * Dt * Dr) * zb), W.imul (-2 * (Dr * Dt * Dr)), W.imul (-2)]
      rw [x1, x2, ← hz, ← e2, ← e3, e4']
      grind
    · have d1 : (zu * (zq * (1 * Dt * Dr) * Dr)).natAbs ≤ 2 ^ (mirE dt et dr er' + 1) := by
        rw [Int.natAbs_mul]
        exact pw_le (pw_mul (show zu.natAbs ≤ 2 ^ 0 by exact b4) hCb) (by omega)
      have d2 : (-2 * (Dr * Dt * Dr) * zb * zr').natAbs ≤ 2 ^ (mirE dt et dr er' + 1) := by
        have f1 : m * (m * (1 * Mt) * Mr) ≤ 2 ^ (5 + et + er') := by
          have : m * (m * (1 * Mt) * Mr) = m * m * (Mt * Mr) := by rw [Nat.one_mul]; ac_rfl
          rw [this]
          exact pw_le (pw_mul hmm (pw_mul bMt bMr)) (by omega)
        unfold mirE
        exact pw_le (pw_abs (pw_abs (pw_abs (show (-2 : Int).natAbs ≤ 2 ^ 1 by decide) c2) (Nat.le_trans b2 f1)) (Nat.le_trans b3 bMr)) (by omega)
      have := pw_add d1 d2
      exact Nat.le_trans (Int.natAbs_add_le _ _) this
  · refine ⟨1, by decide, Nat.pow_pos (by decide), fun T hT q hq => ⟨(hT.2.1 q hq).1, fun a ha => ⟨(hT.2.1 q hq).2 a ha, fun e => absurd e hg0⟩⟩⟩
/-- a row by whose mirror may be reckoned: its own size, and the size of the mirror's table -/
def MirS (W : GV g F) (t : List (List (Int × Int))) (m dt et : Nat) (r : List (Int × Int)) (E : Nat) : Prop :=
  (∃ (Dr : Int) (Mr dr er' : Nat), RZ g Dr Mr m r ∧ Dr ≠ 0 ∧ Dr.natAbs ≤ 2 ^ dr ∧ Mr ≤ 2 ^ er' ∧ mirE dt et dr er' ≤ 3800) ∧ bil (t.map (er W)) m (er W r) (er W r) ≠ 0 ∧ ∃ C : Int, C ≠ 0 ∧ C.natAbs ≤ 2 ^ E ∧ ∀ T, MirT W (t.map (er W)) m (er W r) T → ∀ q ∈ T, RZ g C (2 ^ (E + 2)) m q
theorem MirS.of (hg : g = 0 ∨ Gr5 g) {t : List (List (Int × Int))} {r : List (Int × Int)} {m : Nat} {Dt Dr : Int} {Mt Mr dt et dr er' : Nat} (hm : m ≤ 5) (htl : t.length = m) (ht : ∀ q ∈ t, RZ g Dt Mt m q) (hr : RZ g Dr Mr m r) (hDt : Dt ≠ 0) (hDr : Dr ≠ 0) (bDt : Dt.natAbs ≤ 2 ^ dt) (bMt : Mt ≤ 2 ^ et) (bDr : Dr.natAbs ≤ 2 ^ dr) (bMr : Mr ≤ 2 ^ er') (hE : mirE dt et dr er' ≤ 3800) (hw : bil (t.map (er W)) m (er W r) (er W r) ≠ 0) : MirS W t m dt et r (mirE dt et dr er') :=
  ⟨⟨Dr, Mr, dr, er', hr, hDr, bDr, bMr, hE⟩, hw, mir_sz hg hm htl ht hr hDt hDr bDt bMt bDr bMr hw⟩
/-- a multiple of a row is as good for the mirror's table -/
theorem MirS.scale {t : List (List (Int × Int))} {r s : List (Int × Int)} {m dt et E : Nat} {k : F} (h : MirS W t m dt et r E) (hk : k ≠ 0) (e : er W s = fun j => k * er W r j) {Dr : Int} {Mr dr er' : Nat} (hs : RZ g Dr Mr m s) (hDr : Dr ≠ 0) (bDr : Dr.natAbs ≤ 2 ^ dr) (bMr : Mr ≤ 2 ^ er') (hE : mirE dt et dr er' ≤ 3800) : MirS W t m dt et s E := by
  obtain ⟨_, hw, C, h1, h2, h3⟩ := h
  refine ⟨⟨Dr, Mr, dr, er', hs, hDr, bDr, bMr, hE⟩, ?_, C, h1, h2, fun T hT => h3 T ?_⟩
  · rw [e, bil_mull, bil_mulr]
    intro z
    exact hw (W.dom (W.dom z hk) hk)
  · unfold MirT at hT ⊢
    rw [e, mir_scale W hk hw] at hT
    exact hT
end
end Fm

namespace Fm
open Lean.Grind PySem L2 Fr Fd
/-! ### either a list or a tuple is walked -/
def iOr (a b : TI) : TI := fun σ H R => a σ H R ∨ b σ H R
theorem pi_or {X : Cx} {tg e : Expr} {a b : TI} (h1 : PI X tg e a) (h2 : PI X tg e b) : PI X tg e (iOr a b) := ⟨fun pins s σ H R I h => h.elim (h1.run pins s σ H R I) (h2.run pins s σ H R I)⟩
theorem w_inl {a b : TI} {σ : L2.St} {H : Hp} {R : It → Hp → Prop} (h : a σ H R) : iOr a b σ H R := .inl h
theorem w_inr {a b : TI} {σ : L2.St} {H : Hp} {R : It → Hp → Prop} (h : b σ H R) : iOr a b σ H R := .inr h
theorem w_rng3 {ta : TA} {σ : L2.St} {H : Hp} {R : It → Hp → Prop} (h : ta σ H fun vs H1 => ∃ (i j c : Int) (n : Nat), vs = [.int i, .int j, .int c] ∧ RgC i j c n ∧ R (Itc i c n) H1) : iRng3 ta σ H R := h
theorem rgs_by {m n : Nat} (hm : 0 < m) : Builtin.Range.rangeSize 0 ((m * n : Nat) : Int) (m : Int) = n := by
  unfold Builtin.Range.rangeSize
  rw [if_pos (by omega)]
  by_cases h0 : n = 0
  · subst h0
    simp
  · have h1 : m * 1 ≤ m * n := Nat.mul_le_mul_left m (by omega)
    rw [if_pos (by omega)]
    have e : ((m * n : Nat) : Int) - 0 - 1 = (m : Int) * ((n : Int) - 1) + ((m : Int) - 1) := by
      rw [Int.natCast_mul, Int.mul_sub]
      omega
    rw [e, Int.add_comm ((m : Int) * ((n : Int) - 1)), Int.add_mul_ediv_left _ _ (by omega), Int.ediv_eq_zero_of_lt (by omega) (by omega)]
    omega
theorem rgc_by {m n : Nat} (hm : 0 < m) (hb : m ≤ 1000) (hn : n ≤ 1000) : RgC 0 ((m * n : Nat) : Int) (m : Int) n := by
  have hmn : m * n ≤ 1000 * 1000 := Nat.mul_le_mul hb hn
  have fit : ∀ x : Int, -(2 ^ 40) ≤ x → x < 2 ^ 40 → Builtin.Range.rangeFitsLong x = true := fun x h1 h2 => by
    unfold Builtin.Range.rangeFitsLong
    simp
    omega
  refine ⟨by omega, by omega, ?_, rgs_by hm⟩
  unfold Builtin.Range.small
  rw [rgs_by hm, fit 0 (by omega) (by omega), fit _ (show _ ≤ ((m * n : Nat) : Int) by omega) (by omega), fit (m : Int) (by omega) (by omega), fit (n : Int) (by omega) (by omega), if_pos (by omega), fit _ (show _ ≤ ((m * n : Nat) : Int) + ((m : Int) - 1) by omega) (by omega)]
  simp
/-! ### comprehensions with two sources -/
section
variable {J J1 : It} {n n1 : Nat} {G G1 : Hp → Prop} {Y Y1 : Nat → Hp → V → Hp → Prop} {g g1 : TG} {tt tt1 : TT} {wi1 : TI} {te : TE} {vs vs1 : List Nat} {σ σ2 : L2.St} {H1 H4 : Hp} {D : Addr} {Qd Nx : Hp → Prop}
theorem lc2_out (w : Walk J n G Y) (Pv : Nat → Hp → Prop) (h0 : Pv 0 (upd H1 D (.lst []))) (hG : ∀ i H, i ≤ n → Pv i H → G H)
    (hs : ∀ i x H H', i < n → Pv i H → Y i H x H' → g x (wipe σ vs) H' fun σ2 H2 => wipe σ2 vs = wipe σ vs ∧ tt σ2 H2 fun b H3 =>
      if b = true then wi1 σ2 H3 fun J1 H4 => ∃ W1 : Nat → Nat → Hp → Prop, (∃ m, W1 0 m H4) ∧ ∀ j k H, W1 j k H →
        (J1.stop j H ∧ Pv (i + 1) H) ∨ (J1.go j H ∧ ∃ Nx1 : Hp → Prop, (∀ H', Nx1 H' → ∃ k', k' < k ∧ W1 (j + 1) k' H') ∧ ∀ x H', J1.yld j H x H' → g1 x (wipe σ2 vs1) H' fun σ3 H5 => wipe σ3 vs1 = wipe σ2 vs1 ∧ tt1 σ3 H5 fun b H6 =>
          if b = true then te σ3 H6 fun y H7 => ∃ acc, H7 D = some (.lst acc) ∧ acc.length < sizeLine ∧ Nx1 (upd H7 D (.lst (acc ++ [y]))) else Nx1 H6)
      else Pv (i + 1) H3) (hd : ∀ H, Pv n H → Qd H) :
    ∃ W : Nat → Nat → Hp → Prop, (∃ m, W 0 m (upd H1 D (.lst []))) ∧ ∀ i m H, W i m H →
      (J.stop i H ∧ Qd H) ∨ (J.go i H ∧ ∃ Nx : Hp → Prop, (∀ H', Nx H' → ∃ m', m' < m ∧ W (i + 1) m' H') ∧ ∀ x H', J.yld i H x H' → g x (wipe σ vs) H' fun σ2 H2 => wipe σ2 vs = wipe σ vs ∧ tt σ2 H2 fun b H3 =>
        if b = true then wi1 σ2 H3 fun J1 H4 => ∃ W1 : Nat → Nat → Hp → Prop, (∃ m, W1 0 m H4) ∧ ∀ j k H, W1 j k H →
          (J1.stop j H ∧ Nx H) ∨ (J1.go j H ∧ ∃ Nx1 : Hp → Prop, (∀ H', Nx1 H' → ∃ k', k' < k ∧ W1 (j + 1) k' H') ∧ ∀ x H', J1.yld j H x H' → g1 x (wipe σ2 vs1) H' fun σ3 H5 => wipe σ3 vs1 = wipe σ2 vs1 ∧ tt1 σ3 H5 fun b H6 =>
            if b = true then te σ3 H6 fun y H7 => ∃ acc, H7 D = some (.lst acc) ∧ acc.length < sizeLine ∧ Nx1 (upd H7 D (.lst (acc ++ [y]))) else Nx1 H6)
        else Nx H3) := by
  refine ⟨fun i m H => m = n - i ∧ i ≤ n ∧ Pv i H, ⟨n, by simp, Nat.zero_le _, h0⟩, ?_⟩
  rintro i m H ⟨rfl, hi, p⟩
  have q := hG i H hi p
  by_cases hlt : i < n
  · refine .inr ⟨w.goes i H hlt q, Pv (i + 1), fun H' p' => ⟨n - (i + 1), by omega, rfl, hlt, p'⟩, fun x H' y => hs i x H H' hlt p (w.yields i H x H' hlt q y)⟩
  · have e : i = n := by omega
    subst e
    exact .inl ⟨w.stops H q, hd H p⟩
theorem lc2_in (w : Walk J1 n1 G1 Y1) (Pv : Nat → Hp → Prop) (h0 : Pv 0 H4) (hG : ∀ j H, j ≤ n1 → Pv j H → G1 H)
    (hs : ∀ j x H H', j < n1 → Pv j H → Y1 j H x H' → g1 x (wipe σ2 vs1) H' fun σ3 H5 => wipe σ3 vs1 = wipe σ2 vs1 ∧ tt1 σ3 H5 fun b H6 =>
      if b = true then te σ3 H6 fun y H7 => ∃ acc, H7 D = some (.lst acc) ∧ acc.length < sizeLine ∧ Pv (j + 1) (upd H7 D (.lst (acc ++ [y]))) else Pv (j + 1) H6) (hd : ∀ H, Pv n1 H → Nx H) :
    ∃ W1 : Nat → Nat → Hp → Prop, (∃ m, W1 0 m H4) ∧ ∀ j k H, W1 j k H →
      (J1.stop j H ∧ Nx H) ∨ (J1.go j H ∧ ∃ Nx1 : Hp → Prop, (∀ H', Nx1 H' → ∃ k', k' < k ∧ W1 (j + 1) k' H') ∧ ∀ x H', J1.yld j H x H' → g1 x (wipe σ2 vs1) H' fun σ3 H5 => wipe σ3 vs1 = wipe σ2 vs1 ∧ tt1 σ3 H5 fun b H6 =>
        if b = true then te σ3 H6 fun y H7 => ∃ acc, H7 D = some (.lst acc) ∧ acc.length < sizeLine ∧ Nx1 (upd H7 D (.lst (acc ++ [y]))) else Nx1 H6) := by
  refine ⟨fun i m H => m = n1 - i ∧ i ≤ n1 ∧ Pv i H, ⟨n1, by simp, Nat.zero_le _, h0⟩, ?_⟩
  rintro i m H ⟨rfl, hi, p⟩
  have q := hG i H hi p
  by_cases hlt : i < n1
  · refine .inr ⟨w.goes i H hlt q, Pv (i + 1), fun H' p' => ⟨n1 - (i + 1), by omega, rfl, hlt, p'⟩, fun x H' y => hs i x H H' hlt p (w.yields i H x H' hlt q y)⟩
  · have e : i = n1 := by omega
    subst e
    exact .inl ⟨w.stops H q, hd H p⟩
end
/-! ### keepers -/
structure KeeperC (K : PySem.W.Frag) : Prop where
  c : Cls K (He.ga K "Keeper")
  nf : NoAttr K (He.ga K "Keeper") "form"
  nt : NoAttr K (He.ga K "Keeper") "table"
def KeepV (K : PySem.W.Frag) (H : Hp) (k f tv : V) : Prop := ∃ p dx, k = .ref p ∧ H p = some (.ins (He.ga K "Keeper") dx [("form", f), ("table", tv)])
theorem KeepV.sm {K : PySem.W.Frag} {H H' : Hp} {k f tv : V} (h : KeepV K H k f tv) (s : Same H H') : KeepV K H' k f tv := by
  obtain ⟨p, dx, e, hp⟩ := h
  exact ⟨p, dx, e, s _ _ hp⟩
theorem w_kf {K : PySem.W.Frag} {H : Hp} {x f tv : V} {Q : V → Prop} (CK : KeeperC K) (h : KeepV K H x f tv) (q : Q f) : ∃ a C dx fs v, x = .ref a ∧ H a = some (.ins C dx fs) ∧ Cls K C ∧ NoAttr K C "form" ∧ fs.lookup ("form" : Str) = some v ∧ Q v := by
  obtain ⟨p, dx, rfl, hp⟩ := h
  exact ⟨p, _, dx, _, f, rfl, hp, CK.c, CK.nf, rfl, q⟩
theorem w_kt {K : PySem.W.Frag} {H : Hp} {x f tv : V} {Q : V → Prop} (CK : KeeperC K) (h : KeepV K H x f tv) (q : Q tv) : ∃ a C dx fs v, x = .ref a ∧ H a = some (.ins C dx fs) ∧ Cls K C ∧ NoAttr K C "table" ∧ fs.lookup ("table" : Str) = some v ∧ Q v := by
  obtain ⟨p, dx, rfl, hp⟩ := h
  exact ⟨p, _, dx, _, tv, rfl, hp, CK.c, CK.nt, rfl, q⟩
theorem w_meth {C : Addr} {m : Str} {sp : Sp} {dvs : List V} {E : XK} {ta : TE} {t : TA} {σ : L2.St} {H : Hp} {Q : VK} (h : ta σ H fun x H1 => ∃ a dx fs, x = .ref a ∧ H1 a = some (.ins C dx fs) ∧ fs.lookup m = none ∧ t σ H1 fun vs H2 => sp (x :: (vs ++ dvs)) H2 Q E) : tMeth C m sp dvs E ta t σ H Q := h
theorem w_bm0 {K : PySem.W.Frag} {T : String} {r : V → List V → Hp → VK → Prop} {to : TE} {σ : L2.St} {H : Hp} {Q : VK} (h : to σ H fun x H1 => tyV K T x H1 ∧ r x [] H1 Q) : tBM0 K T r to σ H Q := h
/-! ### lists of rows compared -/
/-! ### slices of lists -/
theorem cut_mid (xs : List V) (a b : Nat) (h : a + b ≤ xs.length) : cutV xs (some (a : Int)) (some ((a + b : Nat) : Int)) = (xs.drop a).take b := by
  unfold cutV
  rw [HT.sIx_nat, HT.sIx_nat, Nat.min_eq_left (by omega), Nat.min_eq_left (by omega), Nat.add_sub_cancel_left]
section
variable {g : Int} {F : Type} [CommRing F]
theorem dot_S : ∀ (n : Nat) (ts ss : List Int), ts.length = n → ss.length = n → dotF ts ss = S (fun j => gt ts j * gt ss j) n
  | 0, [], [], _, _ => rfl
  | n + 1, a :: ts, b :: ss, h1, h2 => by
    have ih := dot_S n ts ss (Nat.succ.inj h1) (Nat.succ.inj h2)
    rw [S_front]
    show a * b + (List.zipWith (fun a b => a * b) ts ss).sum = _
    have ih' : (List.zipWith (fun a b => a * b) ts ss).sum = S (fun j => gt ts j * gt ss j) n := ih
    rw [ih']
    rfl
theorem i_dot (W : GV g F) {n : Nat} {ts ss : List Int} (h1 : ts.length = n) (h2 : ss.length = n) : W.i (dotF ts ss) = SF (fun j => fr W ts j * fr W ss j) n := by
  rw [dot_S n ts ss h1 h2, i_SF]
  exact SF_congr fun j _ => W.imul _ _
theorem dot_ab {n A B : Nat} {ts ss : List Int} (h1 : ts.length = n) (h2 : ss.length = n) (ha : ∀ t ∈ ts, t.natAbs ≤ A) (hb : ∀ t ∈ ss, t.natAbs ≤ B) : (dotF ts ss).natAbs ≤ n * (A * B) := by
  rw [dot_S n ts ss h1 h2]
  refine S_abs fun i hi => ?_
  rw [Int.natAbs_mul]
  refine Nat.mul_le_mul ?_ ?_
  · by_cases e : gt ts i = 0
    · rw [e]
      exact Nat.zero_le _
    · exact ha _ (gt_mem e)
  · by_cases e : gt ss i = 0
    · rw [e]
      exact Nat.zero_le _
    · exact hb _ (gt_mem e)
theorem ngt_true (W : GV g F) (hg : g = 0 ∨ Gr5 g) {z : Int} (h : W.i z = 0) : (if g = 0 then decide (z = 0) else decide (z.fmod g = 0)) = true := by
  obtain ⟨h1, h2⟩ := W.ker z h
  by_cases e : g = 0
  · rw [if_pos e, decide_eq_true (h1 e)]
  · rw [if_neg e, decide_eq_true (h2 e)]
/-! ### tables as whole numbers over one bottom -/
def wtT (m : Nat) (t : List (List (Int × Int))) : List (List Int) := (List.range t.length).map fun i => ((wrT t.flatten).drop (m * i)).take m
def wtB (t : List (List (Int × Int))) : Int := wrB t.flatten
theorem flat_len {m : Nat} : ∀ {t : List (List (Int × Int))}, (∀ r ∈ t, r.length = m) → t.flatten.length = m * t.length
  | [], _ => rfl
  | r :: t, h => by
    rw [List.flatten_cons, List.length_append, h r List.mem_cons_self, flat_len fun q hq => h q (List.mem_cons_of_mem _ hq), List.length_cons, Nat.mul_succ, Nat.add_comm]
theorem flat_get {m : Nat} : ∀ {t : List (List (Int × Int))} {i j : Nat} {r : List (Int × Int)}, (∀ r ∈ t, r.length = m) → t[i]? = some r → j < m → t.flatten[m * i + j]? = r[j]?
  | q :: t, 0, j, r, h, e, hj => by
    cases Option.some.inj e
    rw [List.flatten_cons, Nat.mul_zero, Nat.zero_add, List.getElem?_append_left (by rw [h q List.mem_cons_self]; exact hj)]
  | q :: t, i + 1, j, r, h, e, hj => by
    have hq := h q List.mem_cons_self
    rw [List.flatten_cons, List.getElem?_append_right (by rw [hq, Nat.mul_succ]; omega), hq]
    have : m * (i + 1) + j - m = m * i + j := by rw [Nat.mul_succ]; omega
    rw [this]
    exact flat_get (fun q' hq' => h q' (List.mem_cons_of_mem _ hq')) e hj
theorem wt_len (m : Nat) (t : List (List (Int × Int))) : (wtT m t).length = t.length := by
  unfold wtT
  rw [List.length_map, List.length_range]
theorem wt_at {m i : Nat} {t : List (List (Int × Int))} (hi : i < t.length) : (wtT m t)[i]? = some (((wrT t.flatten).drop (m * i)).take m) := by
  unfold wtT
  rw [List.getElem?_map, List.getElem?_range hi]
  rfl
theorem wt_row {m i : Nat} {t : List (List (Int × Int))} (h : ∀ r ∈ t, r.length = m) (hi : i < t.length) : (((wrT t.flatten).drop (m * i)).take m).length = m := by
  have h1 : m * (i + 1) ≤ m * t.length := Nat.mul_le_mul_left m hi
  rw [List.length_take, List.length_drop, wrT_len, flat_len h]
  rw [Nat.mul_succ] at h1
  omega
/-- their values -/
theorem wt_fr (hg : g = 0 ∨ Gr5 g) (W : GV g F) {k m i : Nat} {t : List (List (Int × Int))} {r : List (Int × Int)} (h : ∀ r ∈ t, r.length = m ∧ ∀ a ∈ r, TN g k a) (e : t[i]? = some r) : fr W (((wrT t.flatten).drop (m * i)).take m) = fun j => W.i (wtB t) * er W r j := by
  have hl : ∀ r ∈ t, r.length = m := fun r hr => (h r hr).1
  have hi := (List.getElem?_eq_some_iff.mp e).1
  have hr := hl r (List.mem_of_getElem? e)
  obtain ⟨_, w2⟩ := wr_fr (V := W) (r := t.flatten) (k := k) hg fun a ha => by
    obtain ⟨q, hq, ha⟩ := List.mem_flatten.mp ha
    exact (h q hq).2 a ha
  funext j
  have hrow := wt_row hl hi
  by_cases hj : j < m
  · have e1 : gt (((wrT t.flatten).drop (m * i)).take m) j = gt (wrT t.flatten) (m * i + j) := by
      unfold gt
      rw [List.getD_eq_getElem?_getD, List.getD_eq_getElem?_getD, List.getElem?_take_of_lt hj, List.getElem?_drop]
    show W.i (gt (((wrT t.flatten).drop (m * i)).take m) j) = _
    rw [e1, w2]
    show W.i (wrB t.flatten) * W.e (t.flatten.getD (m * i + j) (0, 1)) = W.i (wtB t) * W.e (r.getD j (0, 1))
    rw [List.getD_eq_getElem?_getD, List.getD_eq_getElem?_getD, flat_get hl e hj]
    rfl
  · have e1 : gt (((wrT t.flatten).drop (m * i)).take m) j = 0 := by
      unfold gt
      rw [List.getD_eq_getElem?_getD, List.getElem?_eq_none (by omega)]
      rfl
    show W.i (gt (((wrT t.flatten).drop (m * i)).take m) j) = _
    rw [e1, W.i0, er_out (by omega)]
    grind
theorem wt_ne (hg : g = 0 ∨ Gr5 g) (W : GV g F) {k m : Nat} {t : List (List (Int × Int))} (h : ∀ r ∈ t, r.length = m ∧ ∀ a ∈ r, TN g k a) : W.i (wtB t) ≠ 0 :=
  (wr_fr (V := W) (r := t.flatten) (k := k) hg fun a ha => by
    obtain ⟨q, hq, ha⟩ := List.mem_flatten.mp ha
    exact (h q hq).2 a ha).1
theorem wt_sz (hg : g = 0 ∨ Gr5 g) {D : Int} {M m A : Nat} {t : List (List (Int × Int))} (h : ∀ r ∈ t, RZ g D M m r) (hD0 : D ≠ 0) (hDA : D.natAbs ≤ A) (hMA : M ≤ A) (hA : 13 ≤ A) : (wtB t).natAbs ≤ A ∧ ∀ (i : Nat), ∀ y ∈ ((wrT t.flatten).drop (m * i)).take m, y.natAbs ≤ A := by
  have := wr_tz (r := t.flatten) hg (fun a ha => by
    obtain ⟨q, hq, ha⟩ := List.mem_flatten.mp ha
    exact (h q hq).2 a ha) hD0 hDA hMA hA
  exact ⟨this.1, fun i y hy => this.2 y (List.mem_of_mem_drop (List.mem_of_mem_take hy))⟩
/-! ### a mirror's step by whole numbers -/
theorem two_i (W : GV g F) : W.i 2 = 1 + 1 := by rw [show (2 : Int) = 1 + 1 from rfl, W.iadd, W.i1]
/-- led: the row put through the form's table; by: a multiple of the row -/
theorem led_fr (W : GV g F) {B : List (Row F)} {m : Nat} (hB : B.length = m) (hs : SymF B m) {β κ : F} {u : Row F} {by_ led : List Int} {cols : List (List Int)} (hby : fr W by_ = fun j => κ * u j) (hl : by_.length = m) (hc : cols.length = m) (hcr : ∀ (i : Nat) (c : List Int), cols[i]? = some c → c.length = m ∧ fr W c = fun j => β * (B.getD i zr) j) (hled : led = cols.map (dotF by_)) :
    led.length = m ∧ ∀ j, j < m → fr W led j = β * κ * thr B u j := by
  refine ⟨by rw [hled, List.length_map, hc], fun j hj => ?_⟩
  have gc : cols[j]? = some (cols[j]'(by omega)) := List.getElem?_eq_getElem _
  obtain ⟨c1, c2⟩ := hcr j _ gc
  have e1 : gt led j = dotF by_ (cols[j]'(by omega)) := by
    unfold gt
    rw [hled, List.getD_eq_getElem?_getD, List.getElem?_map, gc]
    rfl
  show W.i (gt led j) = _
  rw [e1, i_dot W hl c1, hby, c2]
  show SF (fun i => κ * u i * (β * (B.getD j zr) i)) m = β * κ * SF (fun i => u i * (B.getD i zr) j) B.length
  rw [hB, ← SF_mul]
  refine SF_congr fun i hi => ?_
  rw [hs i j hi hj]
  grind
theorem dot_led (W : GV g F) {B : List (Row F)} {m : Nat} {c : F} {u v : Row F} {xs led : List Int} (hl : xs.length = m) (hl2 : led.length = m) (hx : fr W xs = v) (hled : ∀ j, j < m → fr W led j = c * thr B u j) : W.i (dotF xs led) = c * bil B m u v := by
  rw [i_dot W hl hl2]
  unfold bil
  rw [← SF_mul]
  refine SF_congr fun j hj => ?_
  rw [hx, hled j hj]
  grind
/-- what the program does to a line -/
def mirdF (line by_ : List Int) (worth twice : Int) : List Int := List.zipWith (fun x y => x * worth - twice * y) line by_
theorem gt_mird {line by_ : List Int} (hl : line.length = by_.length) (w t : Int) (j : Nat) : gt (mirdF line by_ w t) j = gt line j * w - t * gt by_ j := by
  unfold mirdF
  have := gt_zip hl w t j
  have e : (List.zipWith (fun x y => x * w - t * y) line by_) = List.zipWith (fun x y => x * w - y * t) line by_ := by
    congr 1
    funext x y
    rw [Int.mul_comm t y]
  rw [e, this, Int.mul_comm t]
theorem mird_fr (W : GV g F) {B : List (Row F)} {m : Nat} (hB : B.length = m) (hs : SymF B m) {β κ : F} {u v : Row F} {line by_ led : List Int} (hu : bil B m u u ≠ 0) (hll : line.length = m) (hbl : by_.length = m) (hel : led.length = m) (hline : fr W line = v) (hby : fr W by_ = fun j => κ * u j) (hled : ∀ j, j < m → fr W led j = β * κ * thr B u j) :
    fr W (mirdF line by_ (dotF by_ led) (2 * dotF line led)) = fun j => W.i (dotF by_ led) * mirF W B m u v j := by
  have e1 := dot_led W hbl hel hby hled
  have e2 := dot_led W hll hel hline hled
  rw [bil_mulr] at e1
  funext j
  show W.i (gt (mirdF line by_ (dotF by_ led) (2 * dotF line led)) j) = _
  rw [gt_mird (by omega)]
  have h := hv_ok W hu
  rw [i_two] at h
  have ej : W.i (gt line j) = v j := congrFun hline j
  have eb : W.i (gt by_ j) = κ * u j := congrFun hby j
  have sub : W.i (gt line j * dotF by_ led - 2 * dotF line led * gt by_ j) = W.i (gt line j) * W.i (dotF by_ led) + -(W.i 2 * W.i (dotF line led) * W.i (gt by_ j)) := by
    rw [Int.sub_eq_add_neg, W.iadd, W.ineg, W.imul, W.imul (2 * dotF line led), W.imul 2]
  rw [sub, two_i, ej, eb, e2, e1]
  unfold mirF
  rw [bil_comm hB hs v u]
  grind
theorem mird_ab {m A P : Nat} {line by_ : List Int} {w t : Int} (hl : ∀ x ∈ line, x.natAbs ≤ P) (hb : ∀ x ∈ by_, x.natAbs ≤ A) : ∀ x ∈ mirdF line by_ w t, x.natAbs ≤ P * w.natAbs + t.natAbs * A := fun x hx => by
  unfold mirdF at hx
  obtain ⟨i, hi, rfl⟩ := List.mem_iff_getElem.mp hx
  rw [List.length_zipWith] at hi
  rw [List.getElem_zipWith]
  have h1 := hl _ (List.getElem_mem (show i < line.length by omega))
  have h2 := hb _ (List.getElem_mem (show i < by_.length by omega))
  refine Nat.le_trans (Int.natAbs_sub_le _ _) (Nat.add_le_add ?_ ?_)
  · rw [Int.natAbs_mul]
    exact Nat.mul_le_mul_right _ h1
  · rw [Int.natAbs_mul]
    exact Nat.mul_le_mul_left _ h2
/-! ### mirrors exchanged -/
theorem mir_exch (W : GV g F) {B : List (Row F)} {m : Nat} (hB : B.length = m) (hs : SymF B m) {a b : Row F} (hb : bil B m b b ≠ 0) (u : Row F) : mirF W B m (mirF W B m b a) (mirF W B m b u) = mirF W B m b (mirF W B m a u) := by
  have L := mir_lin W B m b
  have k1 := mir_keeps W hB hs hb a a
  have k2 := mir_keeps W hB hs hb u a
  have e : mirF W B m a u = fun j => u j + (hv W (bil B m a a) * bil B m u a) * a j := rfl
  rw [e, L.add u (fun j => (hv W (bil B m a a) * bil B m u a) * a j), L.mul]
  funext j
  show mirF W B m b u j + hv W (bil B m (mirF W B m b a) (mirF W B m b a)) * bil B m (mirF W B m b u) (mirF W B m b a) * mirF W B m b a j = _
  rw [k1, k2]
theorem mirs_app (W : GV g F) (B : List (Row F)) (m : Nat) (xs ys : List (Row F)) (u : Row F) : mirsF W B m (xs ++ ys) u = mirsF W B m ys (mirsF W B m xs u) := by
  unfold mirsF
  rw [List.foldl_append]
theorem mirs_exch (W : GV g F) {B : List (Row F)} {m : Nat} (hB : B.length = m) (hs : SymF B m) {a b : Row F} (hb : bil B m b b ≠ 0) (xs ys : List (Row F)) (u : Row F) : mirsF W B m (xs ++ [b, mirF W B m b a] ++ ys) u = mirsF W B m (xs ++ [a, b] ++ ys) u := by
  rw [mirs_app, mirs_app, mirs_app, mirs_app]
  congr 1
  exact mir_exch W hB hs hb _
end
end Fm

namespace Fm
open Lean.Grind PySem L2 Fr Fd
section
variable {g : Int} {F : Type} [CommRing F]
theorem pe_fldK {X : Cx} {K : PySem.W.Frag} {e : Expr} {f : Str} {pos : Pos} {ta : TE} (hK : X.K = K) (he : PE X e ta) (hb : attributeBase e f X.env (eval e X.env) = eval e X.env) : PE X (.Attribute e f pos) (tFld K ta f) := by
  subst hK
  exact pe_fld he hb
theorem w_cut {t u : TS} {D : Ends} {σ : L2.St} {H : Hp} (Mid : L2.St → Hp → Prop) (h1 : t { D with nx := Mid } σ H) (h2 : ∀ σ' H', Mid σ' H' → u D σ' H') : C8.tCut t u D σ H := ⟨Mid, h1, h2⟩
theorem w_lstRg {ta : TE} {σ : L2.St} {H : Hp} {Q : VK} (h : ta σ H fun x H1 => ∃ n, x = .int n ∧ RgOk 0 n ∧ ∀ q, H1 q = none → Q (.ref q) (upd H1 q (.lst (rgV 0 n)))) : tLstRg (tRg1 ta) σ H Q := h
/-- a plain row is a multiple of the row -/
theorem plain_fr (hg : g = 0 ∨ Gr5 g) (W : GV g F) {k : Nat} {r : List (Int × Int)} (hr : ∀ a ∈ r, TN g k a) : ∃ κ : F, κ ≠ 0 ∧ fr W (plainF g (wrT r)) = fun j => κ * er W r j := by
  obtain ⟨s, hs, e⟩ := W.plain (wrT r)
  obtain ⟨hb, w⟩ := wr_fr (V := W) hg hr
  obtain ⟨y, hy⟩ := W.inv s hs
  refine ⟨y * W.i (wrB r), fun z => hb ?_, funext fun j => ?_⟩
  · have h1 : W.i (wrB r) = s * (y * W.i (wrB r)) := by grind
    rw [h1, z]
    grind
  · have e1 := e j
    have e2 := w j
    show W.i (gt (plainF g (wrT r)) j) = y * W.i (wrB r) * er W r j
    grind
theorem bil_unit {B : List (Row F)} {m i j : Nat} (hB : B.length = m) (hi : i < m) (hj : j < m) : bil B m (unit i) (unit j) = (B.getD i zr) j := by
  unfold bil
  rw [thr_unit (by omega), SF_congr (g := fun k => unit j k * (B.getD i zr) k) fun k _ => by rw [unit_comm j k]; grind]
  exact SF_unit hj _
/-- a table whose rows are what a map leads letters to -/
def TabL (W : GV g F) (m : Nat) (L : Row F → Row F) (T : List (List (Int × Int))) : Prop := T.length = m ∧ (∀ q ∈ T, q.length = m ∧ ∀ a ∈ q, ∃ l, 4 ≤ l ∧ TN g l a) ∧ ∀ i, i < m → (T.map (er W)).getD i zr = L (unit i)
/-- a table that keeps all products -/
def Keeps (W : GV g F) (B : List (Row F)) (m : Nat) (T : List (List (Int × Int))) : Prop := ∀ i j, i < m → j < m → bil B m ((T.map (er W)).getD i zr) ((T.map (er W)).getD j zr) = (B.getD i zr) j
theorem TabL.keeps {W : GV g F} {B : List (Row F)} {m : Nat} {L : Row F → Row F} {T : List (List (Int × Int))} (h : TabL W m L T) (hB : B.length = m) (hk : ∀ u v, bil B m (L u) (L v) = bil B m u v) : Keeps W B m T := fun i j hi hj => by
  rw [h.2.2 i hi, h.2.2 j hj, hk, bil_unit hB hi hj]
theorem TabL.thr {W : GV g F} {m : Nat} {L : Row F → Row F} {T : List (List (Int × Int))} (h : TabL W m L T) (hL : Lin L) {u : Row F} (hu : ∀ j, m ≤ j → u j = 0) : thr (T.map (er W)) u = L u := thr_lin (by rw [List.length_map]; exact h.1) hL h.2.2 hu
/-! ### mirrors one after another, by whole numbers over one bottom -/
structure Wms (W : GV g F) (B : List (Row F)) (m : Nat) (rs : List (Row F)) (bot : Int) (tops : List (List Int)) (P : Nat) : Prop where
  len : tops.length = m
  row : ∀ l ∈ tops, l.length = m ∧ ∀ x ∈ l, x.natAbs ≤ 2 ^ P
  bb : bot.natAbs ≤ 2 ^ P
  bn : W.i bot ≠ 0
  val : ∀ (i : Nat) (l : List Int), tops[i]? = some l → fr W l = fun j => W.i bot * mirsF W B m rs (unit i) j
theorem wtB_ones (m : Nat) : wtB (onesF m) = 1 := by
  unfold wtB
  refine wrB_one fun x hx => ?_
  obtain ⟨q, hq, hx⟩ := List.mem_flatten.mp hx
  unfold onesF at hq
  obtain ⟨i, _, rfl⟩ := List.mem_map.mp hq
  obtain ⟨j, _, rfl⟩ := List.mem_map.mp hx
  rfl
theorem ones_len (m : Nat) : (onesF m).length = m := by unfold onesF; rw [List.length_map, List.length_range]
theorem ones_tn (hg : g = 0 ∨ Gr5 g) (m : Nat) : ∀ r ∈ onesF m, r.length = m ∧ ∀ a ∈ r, TN g 4 a := fun r hr => ⟨(rz_ones hg r hr).1, (rz_ones hg r hr).tn hg (by decide) (by decide) (by decide) (by decide)⟩
theorem wms_start (hg : g = 0 ∨ Gr5 g) (W : GV g F) (B : List (Row F)) (m : Nat) : Wms W B m [] 1 (wtT m (onesF m)) 4 := by
  have hl := ones_len m
  have sz := wt_sz (t := onesF m) (m := m) (A := 16) hg (rz_ones hg) (by decide) (by decide) (by decide) (by decide)
  refine ⟨by rw [wt_len, hl], fun l h => ?_, by decide, by rw [W.i1]; exact W.ne, fun i l h => ?_⟩
  · obtain ⟨i, hi⟩ := List.getElem?_of_mem h
    have hil := (List.getElem?_eq_some_iff.mp hi).1
    rw [wt_len, hl] at hil
    rw [wt_at (by omega)] at hi
    cases Option.some.inj hi
    exact ⟨wt_row (fun r hr => (rz_ones (g := g) hg r hr).1) (by omega), sz.2 i⟩
  · have hil := (List.getElem?_eq_some_iff.mp h).1
    rw [wt_len, hl] at hil
    rw [wt_at (by omega)] at h
    cases Option.some.inj h
    rw [wt_fr hg W (ones_tn hg m) (ones_get hil), wtB_ones, er_onesrow hil]
    rfl
theorem wms_step (W : GV g F) {B : List (Row F)} {m : Nat} (hB : B.length = m) (hs : SymF B m) (hm : m ≤ 5) {rs : List (Row F)} {bot : Int} {tops : List (List Int)} {P a s : Nat} {β κ : F} {u : Row F} {by_ led : List Int} {cols : List (List Int)} (h : Wms W B m rs bot tops P) (hu : bil B m u u ≠ 0) (hκ : κ ≠ 0) (hβ : β ≠ 0)
    (hby : fr W by_ = fun j => κ * u j) (hl : by_.length = m) (hba : ∀ x ∈ by_, x.natAbs ≤ 2 ^ a) (hc : cols.length = m) (hcr : ∀ (i : Nat) (c : List Int), cols[i]? = some c → c.length = m ∧ fr W c = fun j => β * (B.getD i zr) j) (hca : ∀ c ∈ cols, ∀ x ∈ c, x.natAbs ≤ 2 ^ s) (hled : led = cols.map (dotF by_)) :
    Wms W B m (rs ++ [u]) (bot * dotF by_ led) (tops.map fun l => mirdF l by_ (dotF by_ led) (2 * dotF l led)) (P + (8 + 2 * a + s)) ∧ (∀ x ∈ led, x.natAbs ≤ 2 ^ (3 + (a + s))) ∧ (dotF by_ led).natAbs ≤ 2 ^ (6 + 2 * a + s) := by
  obtain ⟨hel, helv⟩ := led_fr W hB hs hby hl hc hcr hled
  have hm3 : m ≤ 2 ^ 3 := Nat.le_trans hm (by decide)
  have bled : ∀ x ∈ led, x.natAbs ≤ 2 ^ (3 + (a + s)) := fun x hx => by
    rw [hled] at hx
    obtain ⟨c, hc', rfl⟩ := List.mem_map.mp hx
    obtain ⟨i, hi⟩ := List.getElem?_of_mem hc'
    exact Nat.le_trans (dot_ab hl (hcr i c hi).1 hba (hca c hc')) (pw_mul hm3 (pw_mul (Nat.le_refl _) (Nat.le_refl _)))
  have bw : (dotF by_ led).natAbs ≤ 2 ^ (6 + 2 * a + s) := pw_le (Nat.le_trans (dot_ab hl hel hba bled) (pw_mul hm3 (pw_mul (Nat.le_refl _) (Nat.le_refl _)))) (by omega)
  have ew := dot_led W hl hel hby helv
  rw [bil_mulr] at ew
  have hw0 : W.i (dotF by_ led) ≠ 0 := fun z => by
    have : (β * κ * κ) * bil B m u u = 0 := by rw [← z, ew]; grind
    have h1 : β * κ * κ ≠ 0 := fun y => hκ (W.dom (x := β * κ) y fun x => hκ (W.dom x hβ))
    exact hu (W.dom this h1)
  refine ⟨⟨by rw [List.length_map]; exact h.len, fun l hl' => ?_, ?_, ?_, fun i l hi => ?_⟩, bled, bw⟩
  · obtain ⟨q, hq, rfl⟩ := List.mem_map.mp hl'
    obtain ⟨q1, q2⟩ := h.row q hq
    refine ⟨by unfold mirdF; rw [List.length_zipWith]; omega, fun x hx => ?_⟩
    have b1 : (dotF q led).natAbs ≤ 2 ^ (6 + P + a + s) := pw_le (Nat.le_trans (dot_ab q1 hel q2 bled) (pw_mul hm3 (pw_mul (Nat.le_refl _) (Nat.le_refl _)))) (by omega)
    have b2 : (2 * dotF q led).natAbs ≤ 2 ^ (7 + P + a + s) := pw_le (pw_abs (show (2 : Int).natAbs ≤ 2 ^ 1 by decide) b1) (by omega)
    have b3 := mird_ab (m := m) (w := dotF by_ led) (t := 2 * dotF q led) q2 hba x hx
    refine Nat.le_trans b3 (pw_le (pw_add (i := 7 + P + 2 * a + s) (pw_le (pw_mul (Nat.le_refl _) bw) (by omega)) (pw_le (pw_mul b2 (Nat.le_refl _)) (by omega))) (by omega))
  · exact pw_le (pw_abs h.bb bw) (by omega)
  · rw [W.imul]
    exact fun z => hw0 (W.dom z h.bn)
  · rw [List.getElem?_map] at hi
    obtain ⟨q, hq, rfl⟩ := Option.map_eq_some_iff.mp hi
    obtain ⟨q1, q2⟩ := h.row q (List.mem_of_getElem? hq)
    rw [mird_fr W hB hs hu q1 hl hel (h.val i q hq) hby helv, (mir_lin W B m u).mul, mirs_snoc, W.imul]
    funext j
    grind
theorem ibn_ne (hg : g = 0 ∨ Gr5 g) (W : GV g F) {b : Int} (h : W.i b ≠ 0) : b ≠ 0 ∧ (g ≠ 0 → b.fmod g ≠ 0) := ⟨fun z => h (by rw [z, W.i0]), fun hg0 z => h (by rw [← W.imod hg0, z, W.i0])⟩
theorem wms_done (hg : g = 0 ∨ Gr5 g) {W : GV g F} {B : List (Row F)} {m : Nat} {rs : List (Row F)} {bot : Int} {tops : List (List Int)} {P : Nat} (h : Wms W B m rs bot tops P) :
    TabL W m (mirsF W B m rs) (tops.map fun l => l.map fun x => lowF g x bot) ∧ ∀ q ∈ (tops.map fun l => l.map fun x => lowF g x bot), RZ g bot (2 ^ P) m q := by
  obtain ⟨b0, bg⟩ := ibn_ne hg W h.bn
  have tn : ∀ l ∈ tops, ∀ x ∈ l, TN g (P + 5) (lowF g x bot) := fun l hl x hx => tn_low hg b0 bg (by omega) (pw_lt ((h.row l hl).2 x hx) (by omega)) (pw_lt h.bb (by omega))
  refine ⟨⟨by rw [List.length_map]; exact h.len, fun q hq => ?_, fun i hi => ?_⟩, fun q hq => ?_⟩
  · obtain ⟨l, hl, rfl⟩ := List.mem_map.mp hq
    refine ⟨by rw [List.length_map]; exact (h.row l hl).1, fun a ha => ?_⟩
    obtain ⟨x, hx, rfl⟩ := List.mem_map.mp ha
    exact ⟨_, by omega, tn l hl x hx⟩
  · have hil : i < tops.length := by rw [h.len]; exact hi
    have gl : tops[i]? = some tops[i] := List.getElem?_eq_getElem hil
    have e := h.val i _ gl
    rw [getD_map (a := tops[i].map fun x => lowF g x bot) (by rw [List.getElem?_map, gl]; rfl)]
    funext j
    have ej : W.i (gt tops[i] j) = W.i bot * mirsF W B m rs (unit i) j := congrFun e j
    refine W.cancel (z := W.i bot) ?_ h.bn
    by_cases hj : j < tops[i].length
    · rw [er_at (by rw [List.length_map]; exact hj), List.getElem_map, W.low hg b0 bg]
      have eg : gt tops[i] j = tops[i][j] := by
        unfold gt
        rw [List.getD_eq_getElem?_getD, List.getElem?_eq_getElem hj]
        rfl
      rw [← eg, ej]
      grind
    · rw [er_out (by rw [List.length_map]; omega)]
      have eg : gt tops[i] j = 0 := by
        unfold gt
        rw [List.getD_eq_getElem?_getD, List.getElem?_eq_none (by omega)]
        rfl
      rw [eg, W.i0] at ej
      grind
  · obtain ⟨l, hl, rfl⟩ := List.mem_map.mp hq
    refine ⟨by rw [List.length_map]; exact (h.row l hl).1, fun a ha => ?_⟩
    obtain ⟨x, hx, rfl⟩ := List.mem_map.mp ha
    exact tz_of (W := W) ⟨_, by omega, tn l hl x hx⟩ fun _ => ⟨x, W.low hg b0 bg, (h.row l hl).2 x hx⟩
/-- what lowest asks of its bottom -/
theorem low_ask (hg : g = 0 ∨ Gr5 g) (W : GV g F) {u b : Int} (h : W.i b ≠ 0) (hb : b.natAbs < 2 ^ 8500) (hu : u.natAbs < 2 ^ 50000) : (g = 0 ∧ b ≠ 0 ∧ b.natAbs < 2 ^ 8500) ∨ (3 ≤ g ∧ u.natAbs < 2 ^ 50000 ∧ ∃ k : Int, 1 ≤ k ∧ k ≤ 13 ∧ (k * b).fmod g = 1) := by
  obtain ⟨b0, bg⟩ := ibn_ne hg W h
  rcases hg with z | h5
  · exact .inl ⟨z, b0, hb⟩
  · obtain ⟨f, f1, f2, f3⟩ := inv_of h5 (bg (by unfold Gr5 at h5; omega))
    exact .inr ⟨by unfold Gr5 at h5; omega, hu, f, f1, f2, f3⟩
/-- the gap of two rows that are kept -/
theorem kept_gap (W : GV g F) {B : List (Row F)} {m : Nat} (hB : B.length = m) (hs : SymF B m) {tops others led : List Int} {cols : List (List Int)} {bot un : Int} {β : F} {u v : Row F} {sh : Int} (ht : fr W tops = fun j => W.i bot * u j) (hl : tops.length = m) (ho : fr W others = fun j => W.i un * v j) (hol : others.length = m) (hc : cols.length = m) (hcr : ∀ (i : Nat) (c : List Int), cols[i]? = some c → c.length = m ∧ fr W c = fun j => β * (B.getD i zr) j) (hled : led = cols.map (dotF tops)) (hsh : W.i sh = β * bil B m u v) : W.i (dotF led others - sh * bot * un) = 0 := by
  obtain ⟨hel, helv⟩ := led_fr W hB hs ht hl hc hcr hled
  have e : W.i (dotF led others) = β * W.i bot * W.i un * bil B m u v := by
    rw [i_dot W hel hol]
    unfold bil
    rw [← SF_mul]
    refine SF_congr fun j hj => ?_
    rw [helv j hj, ho]
    grind
  rw [Int.sub_eq_add_neg, W.iadd, W.ineg, e, W.imul, W.imul, hsh]
  grind
theorem tab_injZ (hg : g = 0 ∨ Gr5 g) (W : GV g F) {D D' : Int} {M N m : Nat} {T T' : List (List (Int × Int))} (hl : T.length = m) (hl' : T'.length = m) (h : ∀ q ∈ T, RZ g D M m q) (h' : ∀ q ∈ T', RZ g D' N m q) (e : ∀ i, i < m → (T.map (er W)).getD i zr = (T'.map (er W)).getD i zr) : T = T' := by
  refine List.ext_getElem (by omega) fun i h1 h2 => ?_
  have e1 := e i (by omega)
  rw [getD_map (List.getElem?_eq_getElem h1), getD_map (List.getElem?_eq_getElem h2)] at e1
  exact er_injZ (V := W) hg (h _ (List.getElem_mem h1)) (h' _ (List.getElem_mem h2)) fun j _ => congrFun e1 j
theorem cut_two {α : Type} {rs : List α} {u w : α} {i : Nat} (hu : rs[i]? = some u) (hw : rs[i + 1]? = some w) : rs = rs.take i ++ [u, w] ++ rs.drop (i + 2) := by
  have h1 := (List.getElem?_eq_some_iff.mp hu).1
  have h2 := (List.getElem?_eq_some_iff.mp hw).1
  have e1 : rs.drop i = u :: rs.drop (i + 1) := by
    rw [List.drop_eq_getElem_cons h1]
    rw [List.getElem?_eq_getElem h1] at hu
    rw [Option.some.inj hu]
  have e2 : rs.drop (i + 1) = w :: rs.drop (i + 2) := by
    rw [List.drop_eq_getElem_cons h2]
    rw [List.getElem?_eq_getElem h2] at hw
    rw [Option.some.inj hw]
  have e3 := (List.take_append_drop i rs).symm
  rw [e1, e2] at e3
  rw [List.append_assoc]
  exact e3
theorem mirs_cut (W : GV g F) {B : List (Row F)} {m : Nat} (hB : B.length = m) (hs : SymF B m) {rs : List (List (Int × Int))} {u w v : List (Int × Int)} {i : Nat} (hu : rs[i]? = some u) (hw : rs[i + 1]? = some w) (h0 : bil B m (er W w) (er W w) ≠ 0) (e : er W v = mirF W B m (er W w) (er W u)) (x : Row F) :
    mirsF W B m ((rs.take i ++ [w, v] ++ rs.drop (i + 2)).map (er W)) x = mirsF W B m (rs.map (er W)) x := by
  have e1 := congrArg (List.map (er W)) (cut_two hu hw)
  rw [e1, List.map_append, List.map_append, List.map_append, List.map_append]
  show mirsF W B m (_ ++ [er W w, er W v] ++ _) x = mirsF W B m (_ ++ [er W u, er W w] ++ _) x
  rw [e]
  exact mirs_exch W hB hs h0 _ _ x
theorem pw_app {α β : Type} {P : α → β → Prop} {as as' : List α} {bs bs' : List β} (hl : as.length = bs.length) (h1 : ∀ (j : Nat) (a : α) (b : β), as[j]? = some a → bs[j]? = some b → P a b) (h2 : ∀ (j : Nat) (a : α) (b : β), as'[j]? = some a → bs'[j]? = some b → P a b) : ∀ (j : Nat) (a : α) (b : β), (as ++ as')[j]? = some a → (bs ++ bs')[j]? = some b → P a b := fun j a b ha hb => by
  by_cases hj : j < as.length
  · rw [List.getElem?_append_left hj] at ha
    rw [List.getElem?_append_left (by omega)] at hb
    exact h1 j a b ha hb
  · rw [List.getElem?_append_right (by omega)] at ha hb
    rw [← hl] at hb
    exact h2 _ a b ha hb
theorem pw_rep {α β : Type} {P : α → β → Prop} {as : List α} {n : Nat} {c : β} (h : ∀ a ∈ as, P a c) : ∀ (j : Nat) (a : α) (b : β), as[j]? = some a → (List.replicate n c)[j]? = some b → P a b := fun j a b ha hb => by
  rw [List.eq_of_mem_replicate (List.mem_of_getElem? hb)]
  exact h a (List.mem_of_getElem? ha)
end
end Fm

namespace Fm
open PySem PySem.Spec PyProof.Rows L2 Fd Fr
local macro_rules | `(tactic| walk_at "s1") => `(tactic| first
  | with_reducible refine w_seq ?_ | with_reducible refine w_asg ?_ | with_reducible refine w_ret ?_ | with_reducible refine w_drop ?_ | with_reducible refine w_ifs ?_ | with_reducible refine w_next ?_
  | with_reducible refine w_op ?_ | with_reducible refine w_un ?_ | with_reducible refine w_c ?_ | ((with_reducible refine' w_var ?h ?_); (case h => exact rfl)) | with_reducible refine w_name ?_ | with_reducible refine w_sub ?_
  | with_reducible refine w_test ?_ | with_reducible refine w_B ?_ | with_reducible refine w_exb ?_ | with_reducible refine w_and ?_ | with_reducible refine w_or ?_ | with_reducible refine w_not ?_
  | with_reducible refine w_andV ?_ | with_reducible refine w_orV ?_ | with_reducible refine w_notV ?_ | with_reducible refine w_if ?_
  | with_reducible refine w_I0 ?_ | with_reducible refine w_U ?_ | with_reducible refine w_eqI ?_ | with_reducible refine w_neI ?_
  | with_reducible refine w_nil ?_ | with_reducible refine w_cons ?_ | with_reducible refine w_tup ?_ | with_reducible refine w_lst ?_ | with_reducible refine w_cb ?_ | with_reducible refine w_call ?_
  | ((with_reducible refine' w_ixL ?h ?e ?_); (case h => assumption); (case e => exact rfl)) | ((with_reducible refine' w_ixT ?h ?e ?_); (case h => assumption); (case e => exact rfl))
  | with_reducible refine w_par ?_ | with_reducible refine w_ex2 ?_ | with_reducible refine w_t ?_ | with_reducible refine w_f ?_ | with_reducible refine w_for ?_ | with_reducible refine w_sl ?_ | with_reducible refine w_part ?_ | with_reducible refine w_nopart ?_ | with_reducible refine w_exi ?_ | with_reducible refine w_chain ?_ | with_reducible refine w_rng2 ?_ | with_reducible refine w_bm ?_ | with_reducible refine w_revL ?_ | with_reducible refine w_js ?_ | with_reducible refine w_js0 ?_ | with_reducible refine w_fmt ?_ | with_reducible refine w_lc ?_ | with_reducible refine w_yes ?_ | with_reducible refine w_zipA ?_ | with_reducible refine w_itup ?_ | with_reducible refine w_ilist ?_ | with_reducible refine w_gcons ?_ | with_reducible refine w_gnil ?_
  | ((with_reducible refine' w_gtup ?h ?e ?_); (case h => assumption); (case e => exact rfl)) | ((with_reducible refine' w_glst ?h ?e ?_); (case h => assumption); (case e => exact rfl)) | with_reducible refine w_tru ?_ | with_reducible refine w_rng1 ?_ | with_reducible refine w_e1 ?_ | with_reducible refine w_e2 ?_ | with_reducible refine w_bits ?_ | with_reducible refine w_step2 ?_ | with_reducible refine w_lenSetI ?_ | with_reducible refine w_enum ?_ | with_reducible refine w_enumT ?_ | with_reducible refine w_par3 ?_ | with_reducible refine w_ex3 ?_ | with_reducible refine w_fld ?_ | with_reducible refine w_setF ?_ | with_reducible refine w_makeN ?_ | with_reducible refine w_make ?_ | with_reducible refine w_meth ?_ | with_reducible refine w_bm0 ?_ | with_reducible refine w_rng3 ?_ | with_reducible refine w_callN ?_ | with_reducible refine w_callN0 ?_ | with_reducible refine w_lstRg ?_)
local macro_rules | `(tactic| walk_at "go") => `(tactic| repeat (walk_at "s1"))
local macro_rules | `(tactic| walk_at "tr") => `(tactic| repeat (first | assumption | (refine TB.kd (Kd.of (by assumption)) ?_) | (refine TB.kd (by assumption) ?_)))


abbrev s_is_whole : Stmt := topS 11
theorem sc_is_whole : FnScope ["thing"] ["thing"] (defScope s_is_whole) := ⟨rfl, rfl, rfl, by decide +kernel, rfl, by decide +kernel, by decide +kernel⟩

abbrev s_common_divisor : Stmt := topS 12
theorem sc_common_divisor : FnScope ["a", "b"] ["a", "b"] (defScope s_common_divisor) := ⟨rfl, rfl, rfl, by decide +kernel, rfl, by decide +kernel, by decide +kernel⟩

abbrev s_is_nought_on : Stmt := topS 17
theorem sc_is_nought_on : FnScope ["ground", "whole"] ["ground", "whole"] (defScope s_is_nought_on) := ⟨rfl, rfl, rfl, by decide +kernel, rfl, by decide +kernel, by decide +kernel⟩

abbrev s_wheel_back : Stmt := topS 19
theorem sc_wheel_back : FnScope ["wheel", "whole", "found"] ["wheel", "whole"] (defScope s_wheel_back) := ⟨rfl, rfl, rfl, by decide +kernel, rfl, by decide +kernel, by decide +kernel⟩

abbrev s_dot : Stmt := topS 29
theorem sc_dot : FnScope ["wholes", "others", "whole", "other"] ["wholes", "others"] (defScope s_dot) := ⟨rfl, rfl, rfl, by decide +kernel, rfl, by decide +kernel, by decide +kernel⟩

abbrev s_turned : Stmt := topS 32
theorem sc_turned : FnScope ["table", "at", "row"] ["table"] (defScope s_turned) := ⟨rfl, rfl, rfl, by decide +kernel, rfl, by decide +kernel, by decide +kernel⟩

abbrev s_smaller_row : Stmt := topS 35
theorem sc_smaller_row : FnScope ["row", "head", "last", "at"] ["row", "head", "last"] (defScope s_smaller_row) := ⟨rfl, rfl, rfl, by decide +kernel, rfl, by decide +kernel, by decide +kernel⟩

abbrev s_head_place : Stmt := topS 36
theorem sc_head_place : FnScope ["rows", "begin", "at", "place"] ["rows", "begin", "at"] (defScope s_head_place) := ⟨rfl, rfl, rfl, by decide +kernel, rfl, by decide +kernel, by decide +kernel⟩

abbrev s_table_of_ones : Stmt := topS 37
theorem sc_table_of_ones : FnScope ["many", "place", "at"] ["many"] (defScope s_table_of_ones) := ⟨rfl, rfl, rfl, by decide +kernel, rfl, by decide +kernel, by decide +kernel⟩

abbrev s__law_bag : Stmt := topS 71
theorem sc__law_bag : FnScope ["_law_script", "_law_at", "_law_cell", "_law_great", "_law_primes", "_law_mixed_here"] ["_law_script", "_law_at"] (defScope s__law_bag) := ⟨rfl, rfl, rfl, by decide +kernel, rfl, by decide +kernel, by decide +kernel⟩

abbrev s__law_take : Stmt := topS 72
theorem sc__law_take : FnScope ["_law_bag_here", "_law_many", "_law_digit"] ["_law_bag_here", "_law_many"] (defScope s__law_take) := ⟨rfl, rfl, rfl, by decide +kernel, rfl, by decide +kernel, by decide +kernel⟩

abbrev s__law_shared : Stmt := topS 74
theorem sc__law_shared : FnScope ["_law_one", "_law_other"] ["_law_one", "_law_other"] (defScope s__law_shared) := ⟨rfl, rfl, rfl, by decide +kernel, rfl, by decide +kernel, by decide +kernel⟩

abbrev s__law_turned : Stmt := topS 85
theorem sc__law_turned : FnScope ["_law_table", "_law_k", "_law_row_here"] ["_law_table"] (defScope s__law_turned) := ⟨rfl, rfl, rfl, by decide +kernel, rfl, by decide +kernel, by decide +kernel⟩

abbrev s__law_ones : Stmt := topS 86
theorem sc__law_ones : FnScope ["_law_many", "_law_i", "_law_j"] ["_law_many"] (defScope s__law_ones) := ⟨rfl, rfl, rfl, by decide +kernel, rfl, by decide +kernel, by decide +kernel⟩

abbrev s_is_ground : Stmt := topS 15
theorem sc_is_ground : FnScope ["thing"] ["thing"] (defScope s_is_ground) := ⟨rfl, rfl, rfl, by decide +kernel, rfl, by decide +kernel, by decide +kernel⟩

abbrev s_is_number : Stmt := topS 16
theorem sc_is_number : FnScope ["ground", "thing", "top", "bottom"] ["ground", "thing"] (defScope s_is_number) := ⟨rfl, rfl, rfl, by decide +kernel, rfl, by decide +kernel, by decide +kernel⟩

abbrev s_lowest : Stmt := topS 18
theorem sc_lowest : FnScope ["ground", "top", "bottom", "shared"] ["ground", "top", "bottom"] (defScope s_lowest) := ⟨rfl, rfl, rfl, by decide +kernel, rfl, by decide +kernel, by decide +kernel⟩

abbrev s_whole_row : Stmt := topS 30
theorem sc_whole_row : FnScope ["row", "bottom", "x"] ["row"] (defScope s_whole_row) := ⟨rfl, rfl, rfl, by decide +kernel, rfl, by decide +kernel, by decide +kernel⟩

abbrev s_whole_determinant : Stmt := topS 34
theorem sc_whole_determinant : FnScope ["rows", "sign", "last", "place", "head", "row"] ["rows"] (defScope s_whole_determinant) := ⟨rfl, rfl, rfl, by decide +kernel, rfl, by decide +kernel, by decide +kernel⟩

abbrev s_plain : Stmt := topS 41
theorem sc_plain : FnScope ["ground", "row", "x", "shared"] ["ground", "row"] (defScope s_plain) := ⟨rfl, rfl, rfl, by decide +kernel, rfl, by decide +kernel, by decide +kernel⟩

abbrev s_mirrored : Stmt := topS 67
theorem sc_mirrored : FnScope ["line", "by", "led", "worth", "twice", "x", "y"] ["line", "by", "led", "worth"] (defScope s_mirrored) := ⟨rfl, rfl, rfl, by decide +kernel, rfl, by decide +kernel, by decide +kernel⟩

abbrev s__law_mixed : Stmt := topS 73
theorem sc__law_mixed : FnScope ["_law_bag_here", "_law_row_here", "_law_rest", "_law_thing"] ["_law_bag_here", "_law_row_here"] (defScope s__law_mixed) := ⟨rfl, rfl, rfl, by decide +kernel, rfl, by decide +kernel, by decide +kernel⟩

abbrev s__law_low : Stmt := topS 75
theorem sc__law_low : FnScope ["_law_g", "_law_up", "_law_down", "_law_one", "_law_common"] ["_law_g", "_law_up", "_law_down"] (defScope s__law_low) := ⟨rfl, rfl, rfl, by decide +kernel, rfl, by decide +kernel, by decide +kernel⟩

abbrev s__law_ground : Stmt := topS 91
theorem sc__law_ground : FnScope ["_law_bag_here"] ["_law_bag_here"] (defScope s__law_ground) := ⟨rfl, rfl, rfl, by decide +kernel, rfl, by decide +kernel, by decide +kernel⟩

abbrev s__law_letters : Stmt := topS 95
theorem sc__law_letters : FnScope ["_law_bag_here", "_law_g"] ["_law_bag_here", "_law_g"] (defScope s__law_letters) := ⟨rfl, rfl, rfl, by decide +kernel, rfl, by decide +kernel, by decide +kernel⟩

abbrev s_is_row : Stmt := topS 24
theorem sc_is_row : FnScope ["ground", "thing", "many", "x"] ["ground", "thing", "many"] (defScope s_is_row) := ⟨rfl, rfl, rfl, by decide +kernel, rfl, by decide +kernel, by decide +kernel⟩

abbrev s_product_row : Stmt := topS 28
theorem sc_product_row : FnScope ["ground", "row", "columns", "tops", "bottom", "column", "under"] ["ground", "row", "columns"] (defScope s_product_row) := ⟨rfl, rfl, rfl, by decide +kernel, rfl, by decide +kernel, by decide +kernel⟩

abbrev s_whole_table : Stmt := topS 31
theorem sc_whole_table : FnScope ["table", "wide", "tops", "bottom", "row", "at", "x"] ["table"] (defScope s_whole_table) := ⟨rfl, rfl, rfl, by decide +kernel, rfl, by decide +kernel, by decide +kernel⟩

abbrev s_determinant : Stmt := topS 33
theorem sc_determinant : FnScope ["ground", "table", "rows", "bottom", "row", "tops", "under"] ["ground", "table"] (defScope s_determinant) := ⟨rfl, rfl, rfl, by decide +kernel, rfl, by decide +kernel, by decide +kernel⟩

abbrev s__law_plus : Stmt := topS 76
theorem sc__law_plus : FnScope ["_law_g", "_law_x", "_law_y"] ["_law_g", "_law_x", "_law_y"] (defScope s__law_plus) := ⟨rfl, rfl, rfl, by decide +kernel, rfl, by decide +kernel, by decide +kernel⟩

abbrev s__law_times : Stmt := topS 77
theorem sc__law_times : FnScope ["_law_g", "_law_x", "_law_y"] ["_law_g", "_law_x", "_law_y"] (defScope s__law_times) := ⟨rfl, rfl, rfl, by decide +kernel, rfl, by decide +kernel, by decide +kernel⟩

abbrev s__law_minus : Stmt := topS 78
theorem sc__law_minus : FnScope ["_law_g", "_law_x"] ["_law_g", "_law_x"] (defScope s__law_minus) := ⟨rfl, rfl, rfl, by decide +kernel, rfl, by decide +kernel, by decide +kernel⟩

abbrev s__law_over : Stmt := topS 79
theorem sc__law_over : FnScope ["_law_g", "_law_x", "_law_y"] ["_law_g", "_law_x", "_law_y"] (defScope s__law_over) := ⟨rfl, rfl, rfl, by decide +kernel, rfl, by decide +kernel, by decide +kernel⟩

abbrev s__law_number : Stmt := topS 92
theorem sc__law_number : FnScope ["_law_bag_here", "_law_g", "_law_wide", "_law_down"] ["_law_bag_here", "_law_g"] (defScope s__law_number) := ⟨rfl, rfl, rfl, by decide +kernel, rfl, by decide +kernel, by decide +kernel⟩

abbrev s_is_table : Stmt := topS 25
theorem sc_is_table : FnScope ["ground", "thing", "high", "wide", "row"] ["ground", "thing", "high", "wide"] (defScope s_is_table) := ⟨rfl, rfl, rfl, by decide +kernel, rfl, by decide +kernel, by decide +kernel⟩

abbrev s_product : Stmt := topS 27
theorem sc_product : FnScope ["ground", "one", "other", "columns", "column", "row"] ["ground", "one", "other"] (defScope s_product) := ⟨rfl, rfl, rfl, by decide +kernel, rfl, by decide +kernel, by decide +kernel⟩

abbrev s_want_rows : Stmt := topS 53
theorem sc_want_rows : FnScope ["form", "things", "thing"] ["form", "things"] (defScope s_want_rows) := ⟨rfl, rfl, rfl, by decide +kernel, rfl, by decide +kernel, by decide +kernel⟩

abbrev s_first_changed : Stmt := topS 61
theorem sc_first_changed : FnScope ["form", "table", "shape", "rows", "one", "tops", "bottom", "led", "other", "others", "under", "gap", "row", "column"] ["form", "table"] (defScope s_first_changed) := ⟨rfl, rfl, rfl, by decide +kernel, rfl, by decide +kernel, by decide +kernel⟩

abbrev s_whole_mirrors : Stmt := topS 66
theorem sc_whole_mirrors : FnScope ["form", "rows", "shape", "tops", "bottom", "row", "by", "led", "worth", "column", "line"] ["form", "rows"] (defScope s_whole_mirrors) := ⟨rfl, rfl, rfl, by decide +kernel, rfl, by decide +kernel, by decide +kernel⟩

abbrev s__law_sum : Stmt := topS 80
theorem sc__law_sum : FnScope ["_law_g", "_law_some", "_law_found", "_law_one"] ["_law_g", "_law_some"] (defScope s__law_sum) := ⟨rfl, rfl, rfl, by decide +kernel, rfl, by decide +kernel, by decide +kernel⟩

abbrev s__law_scaled : Stmt := topS 81
theorem sc__law_scaled : FnScope ["_law_g", "_law_row_here", "_law_x", "_law_one"] ["_law_g", "_law_row_here", "_law_x"] (defScope s__law_scaled) := ⟨rfl, rfl, rfl, by decide +kernel, rfl, by decide +kernel, by decide +kernel⟩

abbrev s__law_added : Stmt := topS 82
theorem sc__law_added : FnScope ["_law_g", "_law_row_here", "_law_other", "_law_one", "_law_two"] ["_law_g", "_law_row_here", "_law_other"] (defScope s__law_added) := ⟨rfl, rfl, rfl, by decide +kernel, rfl, by decide +kernel, by decide +kernel⟩

abbrev s__law_other_than_nought : Stmt := topS 93
theorem sc__law_other_than_nought : FnScope ["_law_bag_here", "_law_g", "_law_x"] ["_law_bag_here", "_law_g"] (defScope s__law_other_than_nought) := ⟨rfl, rfl, rfl, by decide +kernel, rfl, by decide +kernel, by decide +kernel⟩

abbrev s__law_row : Stmt := topS 94
theorem sc__law_row : FnScope ["_law_bag_here", "_law_g", "_law_many", "_law_k"] ["_law_bag_here", "_law_g", "_law_many"] (defScope s__law_row) := ⟨rfl, rfl, rfl, by decide +kernel, rfl, by decide +kernel, by decide +kernel⟩

abbrev s_through : Stmt := topS 26
theorem sc_through : FnScope ["ground", "row", "table"] ["ground", "row", "table"] (defScope s_through) := ⟨rfl, rfl, rfl, by decide +kernel, rfl, by decide +kernel, by decide +kernel⟩

abbrev s_is_form_table : Stmt := topS 52
theorem sc_is_form_table : FnScope ["ground", "thing", "many", "most"] ["ground", "thing"] (defScope s_is_form_table) := ⟨rfl, rfl, rfl, by decide +kernel, rfl, by decide +kernel, by decide +kernel⟩

abbrev s_want_list_of_rows : Stmt := topS 54
theorem sc_want_list_of_rows : FnScope ["form", "thing"] ["form", "thing"] (defScope s_want_list_of_rows) := ⟨rfl, rfl, rfl, by decide +kernel, rfl, by decide +kernel, by decide +kernel⟩

abbrev s_products : Stmt := topS 56
theorem sc_products : FnScope ["form", "rows", "others"] ["form", "rows", "others"] (defScope s_products) := ⟨rfl, rfl, rfl, by decide +kernel, rfl, by decide +kernel, by decide +kernel⟩

abbrev s_Keeper___init__ : Stmt := ((clsB (topS 60)).getD 0 (.Pass ⟨0, 0, 0, 0⟩))
theorem sc_Keeper___init__ : FnScope ["self", "form", "table", "changed"] ["self", "form", "table"] (defScope s_Keeper___init__) := ⟨rfl, rfl, rfl, by decide +kernel, rfl, by decide +kernel, by decide +kernel⟩

abbrev s_mirrors_table : Stmt := topS 65
theorem sc_mirrors_table : FnScope ["form", "rows", "tops", "bottom", "line", "x"] ["form", "rows"] (defScope s_mirrors_table) := ⟨rfl, rfl, rfl, by decide +kernel, rfl, by decide +kernel, by decide +kernel⟩

abbrev s__law_through : Stmt := topS 83
theorem sc__law_through : FnScope ["_law_g", "_law_row_here", "_law_table", "_law_found", "_law_x", "_law_one"] ["_law_g", "_law_row_here", "_law_table"] (defScope s__law_through) := ⟨rfl, rfl, rfl, by decide +kernel, rfl, by decide +kernel, by decide +kernel⟩

abbrev s_Form___init__ : Stmt := ((clsB (topS 51)).getD 0 (.Pass ⟨0, 0, 0, 0⟩))
theorem sc_Form___init__ : FnScope ["self", "table", "ground"] ["self", "table", "ground"] (defScope s_Form___init__) := ⟨rfl, rfl, rfl, by decide +kernel, rfl, by decide +kernel, by decide +kernel⟩

abbrev s_worth_of : Stmt := topS 57
theorem sc_worth_of : FnScope ["form", "row"] ["form", "row"] (defScope s_worth_of) := ⟨rfl, rfl, rfl, by decide +kernel, rfl, by decide +kernel, by decide +kernel⟩

abbrev s_Keeper_of : Stmt := ((clsB (topS 60)).getD 5 (.Pass ⟨0, 0, 0, 0⟩))
theorem sc_Keeper_of : FnScope ["self", "row"] ["self", "row"] (defScope s_Keeper_of) := ⟨rfl, rfl, rfl, by decide +kernel, rfl, by decide +kernel, by decide +kernel⟩

abbrev s__law_product : Stmt := topS 84
theorem sc__law_product : FnScope ["_law_g", "_law_one", "_law_other", "_law_row_here"] ["_law_g", "_law_one", "_law_other"] (defScope s__law_product) := ⟨rfl, rfl, rfl, by decide +kernel, rfl, by decide +kernel, by decide +kernel⟩

abbrev s__law_pair : Stmt := topS 87
theorem sc__law_pair : FnScope ["_law_g", "_law_table", "_law_row_here", "_law_other", "_law_x", "_law_y"] ["_law_g", "_law_table", "_law_row_here", "_law_other"] (defScope s__law_pair) := ⟨rfl, rfl, rfl, by decide +kernel, rfl, by decide +kernel, by decide +kernel⟩

abbrev s_want_worths : Stmt := topS 55
theorem sc_want_worths : FnScope ["form", "rows", "row"] ["form", "rows"] (defScope s_want_worths) := ⟨rfl, rfl, rfl, by decide +kernel, rfl, by decide +kernel, by decide +kernel⟩

abbrev s__law_worth : Stmt := topS 88
theorem sc__law_worth : FnScope ["_law_g", "_law_table", "_law_row_here"] ["_law_g", "_law_table", "_law_row_here"] (defScope s__law_worth) := ⟨rfl, rfl, rfl, by decide +kernel, rfl, by decide +kernel, by decide +kernel⟩

abbrev s__law_changed : Stmt := topS 96
theorem sc__law_changed : FnScope ["_law_bag_here", "_law_g", "_law_table", "_law_many", "_law_turn", "_law_i", "_law_j", "_law_x", "_law_letters_here", "_law_step", "_law_row_here"] ["_law_bag_here", "_law_g", "_law_table"] (defScope s__law_changed) := ⟨rfl, rfl, rfl, by decide +kernel, rfl, by decide +kernel, by decide +kernel⟩

abbrev s_mirror : Stmt := topS 64
theorem sc_mirror : FnScope ["form", "row"] ["form", "row"] (defScope s_mirror) := ⟨rfl, rfl, rfl, by decide +kernel, rfl, by decide +kernel, by decide +kernel⟩

abbrev s__law_mirror : Stmt := topS 89
theorem sc__law_mirror : FnScope ["_law_g", "_law_table", "_law_row_here", "_law_many", "_law_part", "_law_found", "_law_one"] ["_law_g", "_law_table", "_law_row_here"] (defScope s__law_mirror) := ⟨rfl, rfl, rfl, by decide +kernel, rfl, by decide +kernel, by decide +kernel⟩

abbrev s__law_form : Stmt := topS 97
theorem sc__law_form : FnScope ["_law_bag_here", "_law_g", "_law_many", "_law_way", "_law_lack", "_law_row_here", "_law_table", "_law_k", "_law_i", "_law_j"] ["_law_bag_here", "_law_g", "_law_many"] (defScope s__law_form) := ⟨rfl, rfl, rfl, by decide +kernel, rfl, by decide +kernel, by decide +kernel⟩

abbrev s__law_with_worth : Stmt := topS 98
theorem sc__law_with_worth : FnScope ["_law_bag_here", "_law_g", "_law_table", "_law_many", "_law_letters_here", "_law_row_here", "_law_some", "_law_k", "_law_one", "_law_j"] ["_law_bag_here", "_law_g", "_law_table"] (defScope s__law_with_worth) := ⟨rfl, rfl, rfl, by decide +kernel, rfl, by decide +kernel, by decide +kernel⟩

abbrev s_exchanged : Stmt := topS 69
theorem sc_exchanged : FnScope ["form", "rows", "place", "one", "other"] ["form", "rows", "place"] (defScope s_exchanged) := ⟨rfl, rfl, rfl, by decide +kernel, rfl, by decide +kernel, by decide +kernel⟩

abbrev s__law_made : Stmt := topS 90
theorem sc__law_made : FnScope ["_law_g", "_law_table", "_law_rows", "_law_found", "_law_row_here"] ["_law_g", "_law_table", "_law_rows"] (defScope s__law_made) := ⟨rfl, rfl, rfl, by decide +kernel, rfl, by decide +kernel, by decide +kernel⟩

abbrev s__law_mirrors : Stmt := topS 99
theorem sc__law_mirrors : FnScope ["_law_bag_here", "_law_g", "_law_table", "_law_most", "_law_rows", "_law_k"] ["_law_bag_here", "_law_g", "_law_table", "_law_most"] (defScope s__law_mirrors) := ⟨rfl, rfl, rfl, by decide +kernel, rfl, by decide +kernel, by decide +kernel⟩

abbrev s__law_is_exchanged : Stmt := topS 100
theorem sc__law_is_exchanged : FnScope ["_law_form_here", "_law_g", "_law_table", "_law_rows", "_law_at", "_law_first", "_law_second", "_law_due", "_law_handed", "_law_made_here", "_law_turn", "_law_told"] ["_law_form_here", "_law_g", "_law_table", "_law_rows", "_law_at"] (defScope s__law_is_exchanged) := ⟨rfl, rfl, rfl, by decide +kernel, rfl, by decide +kernel, by decide +kernel⟩

abbrev s_law : Stmt := topS 101
theorem sc_law : FnScope ["_law_script", "_law_k", "_law_bag_here", "_law_g", "_law_table", "_law_form_here", "_law_rows", "_law_places", "_law_turn", "_law_at"] ["_law_script"] (defScope s_law) := ⟨rfl, rfl, rfl, by decide +kernel, rfl, by decide +kernel, by decide +kernel⟩


variable {P : Program} {w : World} {K : PySem.W.Frag} {mg : Str → Option Value} {base : Heap} {T : List (Addr × Str)}
def sp_is_whole (K : PySem.W.Frag) : Sp := fun vs H Q _ => ∃ (v : V), vs = [v] ∧ Tv H v ∧ Q (.bl (wholeB v)) H

def sp_common_divisor (K : PySem.W.Frag) : Sp := fun vs H Q _ => ∃ (a c : Int), vs = [.int a, .int c] ∧ Q (.int (Int.gcd a c : Int)) H

/-- whether a whole number is nought on a ground -/
def nghtOn (g d : Int) : Bool := if g = 0 then decide (d = 0) else decide (d.fmod g = 0)
def sp_is_nought_on (K : PySem.W.Frag) : Sp := fun vs H Q _ => ∃ (g d : Int), vs = [.int g, .int d] ∧ (g = 0 ∨ Gr5 g) ∧ Q (.bl (nghtOn g d)) H

def sp_wheel_back (K : PySem.W.Frag) : Sp := fun vs H Q _ => ∃ (g w k : Int), vs = [.int g, .int w] ∧ 3 ≤ g ∧ 1 ≤ k ∧ k ≤ 13 ∧ (k * w).fmod g = 1 ∧ ∀ f : Int, 1 ≤ f → f ≤ 13 → (f * w).fmod g = 1 → Q (.int f) H

def sp_dot (K : PySem.W.Frag) : Sp := fun vs H Q _ => ∃ (a b : Addr) (ts ss : List Int), vs = [.ref a, .ref b] ∧ H a = some (.lst (ts.map V.int)) ∧ H b = some (.lst (ss.map V.int)) ∧ ts.length = ss.length ∧ ts.length ≤ 100 ∧ (∀ t ∈ ts, t.natAbs ≤ 2 ^ 5000) ∧ (∀ t ∈ ss, t.natAbs ≤ 2 ^ 5000) ∧ ∀ H', Same H H' → Q (.int (dotF ts ss)) H'

def sp_turned (K : PySem.W.Frag) : Sp := fun vs H Q _ => ∃ (v : V) (t : List (List (Int × Int))) (l : Nat), vs = [v] ∧ TabV H v t ∧ 0 < t.length ∧ t.length ≤ 10 ∧ (∀ r ∈ t, r.length = l) ∧ l ≤ 10 ∧ ∀ (v' : V) (H' : Hp), Same H H' → TabV H' v' (turnF l t) → Q v' H'

def sp_smaller_row (K : PySem.W.Frag) : Sp := fun vs H Q _ => ∃ (vr vh : V) (r h : List Int) (last : Int) (b : Nat), vs = [vr, vh, .int last] ∧ IL H vr r ∧ IL H vh h ∧ r.length = h.length ∧ 0 < r.length ∧ r.length ≤ 100 ∧ (∀ x, (gt r x).natAbs < 2 ^ b) ∧ (∀ x, (gt h x).natAbs < 2 ^ b) ∧ last ≠ 0 ∧ last.natAbs < 2 ^ b ∧ 0 < b ∧ b ≤ 4400 ∧ ∀ (p' : Addr) (H' : Hp), Same H H' → H' p' = some (.lst ((smF last h r).map V.int)) → H p' = none → Q (.ref p') H'

def sp_head_place (K : PySem.W.Frag) : Sp := fun vs H Q _ => ∃ (v : V) (rows : List (List Int)) (b a : Nat), vs = [v, .int (b : Int), .int (a : Int)] ∧ ILs H v rows ∧ (∀ r ∈ rows, a < r.length) ∧ rows.length ≤ 100 ∧ b ≤ 100 ∧
  ((∀ (i : Nat) (r : List Int), b ≤ i → rows[i]? = some r → gt r a = 0) → Q .non H) ∧ ∀ (i : Nat) (r : List Int), b ≤ i → rows[i]? = some r → gt r a ≠ 0 → Q (.int (i : Int)) H

def sp_table_of_ones (K : PySem.W.Frag) : Sp := fun vs H Q _ => ∃ (m : Nat), vs = [.int (m : Int)] ∧ m ≤ 20 ∧ ∀ (v : V) (H' : Hp), Same H H' → TabV H' v (onesF m) → Q v H'

def sp__law_bag (K : PySem.W.Frag) : Sp := fun vs H Q _ => ∃ (a : Addr) (ns : List Int) (k : Int), vs = [.ref a, .int k] ∧ SqL K H a (ns.map V.int) ∧ 0 ≤ k ∧ k < 64 ∧ ∀ (p : Addr) (H' : Hp), H p = none → Same H H' → Bag H' p → Q (.ref p) H'
theorem bag_primes {i : Int} (h0 : 0 ≤ i) (h8 : i < 8) : ∃ m : Int, atI [V.int 2147483647, V.int 2147483629, V.int 2147483587, V.int 2147483579, V.int 2147483563, V.int 2147483549, V.int 2147483543, V.int 2147483497] i = some (.int m) ∧ 0 < m ∧ m ≤ 2147483647 := by
  rcases (by omega : i = 0 ∨ i = 1 ∨ i = 2 ∨ i = 3 ∨ i = 4 ∨ i = 5 ∨ i = 6 ∨ i = 7) with rfl | rfl | rfl | rfl | rfl | rfl | rfl | rfl <;> exact ⟨_, rfl, by decide, by decide⟩

def sp__law_take (K : PySem.W.Frag) : Sp := fun vs H Q _ => ∃ (b : Addr) (m : Int), vs = [.ref b, .int m] ∧ 0 < m ∧ m < 1073741824 ∧ Bag H b ∧ ∀ (H' : Hp) (d : Int), 0 ≤ d → d < m → Mv b H H' → Bag H' b → Q (.int d) H'

def sp__law_shared (K : PySem.W.Frag) : Sp := fun vs H Q _ => ∃ (a c : Int), vs = [.int a, .int c] ∧ Q (.int (Int.gcd a c : Int)) H
theorem abs_nat (a : Int) : (if a < 0 then -a else a) = ((a.natAbs : Nat) : Int) := by
  split <;> omega

def sp__law_turned (K : PySem.W.Frag) : Sp := fun vs H Q _ => ∃ (v : V) (t : List (List (Int × Int))) (l : Nat), vs = [v] ∧ TabV H v t ∧ 0 < t.length ∧ t.length ≤ 10 ∧ (∀ r ∈ t, r.length = l) ∧ l ≤ 10 ∧ ∀ (v' : V) (H' : Hp), Same H H' → TabV H' v' (turnF l t) → Q v' H'

def sp__law_ones (K : PySem.W.Frag) : Sp := fun vs H Q _ => ∃ (m : Nat), vs = [.int (m : Int)] ∧ m ≤ 10 ∧ ∀ (v : V) (H' : Hp), Same H H' → TabV H' v (onesF m) → Q v H'

def sp_is_ground (K : PySem.W.Frag) : Sp := fun vs H Q _ => ∃ (i : Int), vs = [.int i] ∧ Q (.bl (grdB (.int i))) H

def sp_is_number (K : PySem.W.Frag) : Sp := fun vs H Q _ => ∃ (g : Int) (v : V) (kb nb : Nat), vs = [.int g, v] ∧ TB kb (nb + 1) H v ∧ Q (.bl (numOf H g v)) H

def sp_lowest (K : PySem.W.Frag) : Sp := fun vs H Q _ => ∃ (g u d : Int), vs = [.int g, .int u, .int d] ∧ ((g = 0 ∧ d ≠ 0 ∧ d.natAbs < 2 ^ 8500) ∨ (3 ≤ g ∧ u.natAbs < 2 ^ 50000 ∧ ∃ k : Int, 1 ≤ k ∧ k ≤ 13 ∧ (k * d).fmod g = 1)) ∧ ∀ (p : Addr) (H' : Hp), H p = none → Same H H' → H' p = some (.tup [.int (lowF g u d).1, .int (lowF g u d).2]) → Q (.ref p) H'

/-- a list of numbers -/
def RowL (H : Hp) (v : V) (r : List (Int × Int)) : Prop := ∃ p xs, v = .ref p ∧ H p = some (.lst xs) ∧ xs.length = r.length ∧ ∀ (i : Nat) (x : V) (a : Int × Int), xs[i]? = some x → r[i]? = some a → NumV H x a
def sp_whole_row (K : PySem.W.Frag) : Sp := fun vs H Q _ => ∃ (v : V) (r : List (Int × Int)) (g : Int) (k : Nat), vs = [v] ∧ (RowV H v r ∨ RowL H v r) ∧ (∀ x ∈ r, OkN g k x) ∧ 0 < k ∧ k * r.length ≤ 8000 ∧ k ≤ 1600 ∧ r.length ≤ 100 ∧ ∀ (p L : Addr) (H' : Hp), Same H H' → H L = none → H' p = some (.tup [.ref L, .int (wrB r)]) → H' L = some (.lst ((wrT r).map V.int)) → Q (.ref p) H'

def sp_whole_determinant (K : PySem.W.Frag) : Sp := fun vs H Q _ => ∃ (v : V) (rows : List (List Int)) (n A k : Nat), vs = [v] ∧ ILs H v rows ∧ rows.length = n ∧ 1 ≤ n ∧ n ≤ 20 ∧ (∀ r ∈ rows, r.length = n ∧ ∀ x, (gt r x).natAbs ≤ A) ∧ 1 ≤ A ∧ (n * A) ^ n < 2 ^ k ∧ 0 < k ∧ k ≤ 4400 ∧ ∀ H', Same H H' → Q (.int (dt rows (List.range n))) H'

def sp_plain (K : PySem.W.Frag) : Sp := fun vs H Q _ => ∃ (g : Int) (v : V) (r : List Int) (b : Nat), vs = [.int g, v] ∧ (g = 0 ∨ Gr5 g) ∧ IL H v r ∧ (g = 0 → ∀ x ∈ r, x.natAbs < 2 ^ b) ∧ 0 < b ∧ b ≤ 9000 ∧ r.length ≤ 100 ∧ ∀ (p' : Addr) (H' : Hp), Same H H' → H' p' = some (.lst ((plainF g r).map V.int)) → (v = .ref p' ∨ H p' = none) → Q (.ref p') H'

def sp_mirrored (K : PySem.W.Frag) : Sp := fun vs H Q _ => ∃ (a b c : Addr) (ls bs es : List Int) (w : Int) (m P A E U : Nat), vs = [.ref a, .ref b, .ref c, .int w] ∧ H a = some (.lst (ls.map V.int)) ∧ H b = some (.lst (bs.map V.int)) ∧ H c = some (.lst (es.map V.int)) ∧ ls.length = m ∧ bs.length = m ∧ es.length = m ∧ m ≤ 100 ∧ (∀ x ∈ ls, x.natAbs ≤ 2 ^ P) ∧ (∀ x ∈ bs, x.natAbs ≤ 2 ^ A) ∧ (∀ x ∈ es, x.natAbs ≤ 2 ^ E) ∧ w.natAbs ≤ 2 ^ U ∧ P ≤ 5000 ∧ A ≤ 5000 ∧ E ≤ 5000 ∧ U ≤ 5000 ∧
  ∀ (p : Addr) (H' : Hp), Same H H' → H p = none → H' p = some (.lst ((mirdF ls bs w (2 * dotF ls es)).map V.int)) → Q (.ref p) H'

def sp__law_mixed (K : PySem.W.Frag) : Sp := fun vs H Q _ => ∃ (b p : Addr) (xs : List V), vs = [.ref b, .ref p] ∧ Bag H b ∧ H p = some (.lst xs) ∧ p ≠ b ∧ xs.length ≤ 20 ∧ ∀ (q' : Addr) (H' : Hp) (ys : List V), Mv b H H' → Bag H' b → H' q' = some (.lst ys) → H q' = none → ys.length = xs.length → (∀ y, y ∈ ys ↔ y ∈ xs) → Q (.ref q') H'
theorem erase_mem {α : Type} {xs : List α} {k : Nat} {y : α} (h : xs[k]? = some y) (z : α) : z ∈ xs ↔ z = y ∨ z ∈ xs.eraseIdx k := by
  constructor
  · intro hz
    obtain ⟨i, hi⟩ := List.getElem?_of_mem hz
    by_cases e : i = k
    · subst e
      exact .inl (Option.some.inj (hi.symm.trans h))
    · exact .inr (List.mem_eraseIdx_iff_getElem?.mpr ⟨i, e, hi⟩)
  · rintro (rfl | hz)
    · exact List.mem_of_getElem? h
    · exact List.mem_of_mem_eraseIdx hz
theorem sq_ix {d : Int} {n : Nat} (h0 : 0 ≤ d) (h1 : d < n) : PySem.seqIndex? d n = some d.toNat := by
  unfold PySem.seqIndex?
  simp
  omega

def sp__law_low (K : PySem.W.Frag) : Sp := fun vs H Q _ => ∃ (g u d : Int), vs = [.int g, .int u, .int d] ∧ 0 ≤ g ∧ g ≤ 13 ∧ d ≠ 0 ∧ d.natAbs < 2 ^ 8000 ∧ ∀ (p : Addr) (H' : Hp), H p = none → Same H H' → H' p = some (.tup [.int (lowF g u d).1, .int (lowF g u d).2]) → Q (.ref p) H'
theorem lowI_some {g u d : Int} {i : Nat} (hi : i < g.toNat) (h : ((i : Int) * d).fmod g = u.fmod g) (hn : ∀ j : Nat, j < i → ¬ ((j : Int) * d).fmod g = u.fmod g) : lowI g u d = some i := by
  unfold lowI
  rw [if_pos (by omega)]
  refine List.find?_range_eq_some.mpr ⟨decide_eq_true h, List.mem_range.mpr hi, fun j hj => ?_⟩
  rw [decide_eq_false (hn j hj)]
  rfl
theorem lowI_none {g u d : Int} (hn : ∀ j : Nat, j < g.toNat → ¬ ((j : Int) * d).fmod g = u.fmod g) : lowI g u d = none := by
  unfold lowI
  split
  · refine List.find?_range_eq_none.mpr fun j hj => ?_
    rw [decide_eq_false (hn j hj)]
    rfl
  · rfl
theorem low_sign (d : Int) : atI [V.int 1, V.int (-1)] (if decide (d < 0) = true then 1 else 0) = some (.int (if d < 0 then -1 else 1)) := by
  by_cases h : d < 0
  · rw [decide_eq_true h, if_pos h]; rfl
  · rw [decide_eq_false h, if_neg h]; rfl
theorem low_cb {u d : Int} (hd : d ≠ 0) (hz : d.natAbs < 2 ^ 8000) (i : Int) : CDivZ i ((Int.gcd u d : Int) * (if d < 0 then -1 else 1)) :=
  divZ_of (b := 8000) (lowC_ne hd) (Nat.lt_of_le_of_lt (lowC_le hd) hz) (by decide) (by decide)

def Gr (g : Int) : Prop := g = 0 ∨ g = 3 ∨ g = 5 ∨ g = 7 ∨ g = 11 ∨ g = 13
def sp__law_ground (K : PySem.W.Frag) : Sp := fun vs H Q _ => ∃ (b : Addr), vs = [.ref b] ∧ Bag H b ∧ ∀ (H' : Hp) (g : Int), Gr g → Mv b H H' → Bag H' b → Q (.int g) H'
theorem gr_three {i : Int} (h0 : 0 ≤ i) (h3 : i < 3) : ∃ m : Int, atI [V.int 7, V.int 11, V.int 13] i = some (.int m) ∧ Gr m := by
  rcases (by omega : i = 0 ∨ i = 1 ∨ i = 2) with rfl | rfl | rfl <;> exact ⟨_, rfl, by unfold Gr; decide⟩
theorem gr_eight {i m : Int} (h0 : 0 ≤ i) (h8 : i < 8) (hm : Gr m) : ∃ g : Int, atI [V.int 0, V.int 0, V.int 0, V.int 0, V.int 3, V.int 3, V.int 5, V.int m] i = some (.int g) ∧ Gr g := by
  rcases (by omega : i = 0 ∨ i = 1 ∨ i = 2 ∨ i = 3 ∨ i = 4 ∨ i = 5 ∨ i = 6 ∨ i = 7) with rfl | rfl | rfl | rfl | rfl | rfl | rfl | rfl
  · exact ⟨_, rfl, by unfold Gr; decide⟩
  · exact ⟨_, rfl, by unfold Gr; decide⟩
  · exact ⟨_, rfl, by unfold Gr; decide⟩
  · exact ⟨_, rfl, by unfold Gr; decide⟩
  · exact ⟨_, rfl, by unfold Gr; decide⟩
  · exact ⟨_, rfl, by unfold Gr; decide⟩
  · exact ⟨_, rfl, by unfold Gr; decide⟩
  · exact ⟨_, rfl, hm⟩

def sp__law_letters (K : PySem.W.Frag) : Sp := fun vs H Q _ => ∃ (b : Addr) (g : Int), vs = [.ref b, .int g] ∧ Gr g ∧ Bag H b ∧ ∀ (H' : Hp) (m : Nat), 1 ≤ m → m ≤ 5 → (g ≠ 0 → m ≤ 4) → Mv b H H' → Bag H' b → Q (.int (m : Int)) H'
theorem rep_one {u : V} (m : Nat) : (List.replicate m [u]).flatten = List.replicate m u := by
  induction m with
  | zero => rfl
  | succ m ih => rw [List.replicate_succ, List.flatten_cons, ih, List.replicate_succ]; rfl
theorem row_zeros {H : Hp} {u l : Addr} {m : Nat} (hu : H u = some (.tup [.int 0, .int 1])) (hl : H l = some (.tup (List.replicate m [V.ref u]).flatten)) : RowV H (.ref l) (List.replicate m (0, 1)) := by
  rw [rep_one] at hl
  refine ⟨l, _, rfl, hl, by rw [List.length_replicate, List.length_replicate], fun i x a h1 h2 => ?_⟩
  have e1 := List.eq_of_mem_replicate (List.mem_of_getElem? h1)
  have e2 := List.eq_of_mem_replicate (List.mem_of_getElem? h2)
  subst e1 e2
  exact ⟨u, rfl, hu⟩
theorem mir_b1 {m : Nat} (h : m ≤ 5) : (m + 1) * (16128000000000 * 161280) < 2 ^ 130 ∧ (m + 1) * (m * (16128000000000 * 161280) * 161280) < 2 ^ 130 ∧ m * (m * (16128000000000 * 161280) * 161280) ≤ 25 * (16128000000000 * 161280 * 161280) ∧ (m + 1) * (16128000000000 * 1) < 2 ^ 130 ∧ (m + 1) * (m * (16128000000000 * 1) * 161280) < 2 ^ 130 ∧ m * (m * (16128000000000 * 1) * 161280) ≤ 25 * (16128000000000 * 161280) := by
  rcases (by omega : m = 0 ∨ m = 1 ∨ m = 2 ∨ m = 3 ∨ m = 4 ∨ m = 5) with rfl | rfl | rfl | rfl | rfl | rfl <;> decide
theorem pick_let {i e : Int} (h0 : 0 ≤ i) (h8 : i < 8) (he : e = 4 ∨ e = 5) : ∃ m : Nat, atI [V.int 1, V.int 2, V.int 2, V.int 3, V.int 3, V.int 3, V.int 4, V.int e] i = some (.int (m : Int)) ∧ 1 ≤ m ∧ ((m : Int) = e ∨ m ≤ 4) := by
  rcases (by omega : i = 0 ∨ i = 1 ∨ i = 2 ∨ i = 3 ∨ i = 4 ∨ i = 5 ∨ i = 6 ∨ i = 7) with rfl | rfl | rfl | rfl | rfl | rfl | rfl | rfl
  · exact ⟨1, rfl, by decide, .inr (by decide)⟩
  · exact ⟨2, rfl, by decide, .inr (by decide)⟩
  · exact ⟨2, rfl, by decide, .inr (by decide)⟩
  · exact ⟨3, rfl, by decide, .inr (by decide)⟩
  · exact ⟨3, rfl, by decide, .inr (by decide)⟩
  · exact ⟨3, rfl, by decide, .inr (by decide)⟩
  · exact ⟨4, rfl, by decide, .inr (by decide)⟩
  · rcases he with rfl | rfl
    · exact ⟨4, rfl, by decide, .inl rfl⟩
    · exact ⟨5, rfl, by decide, .inl rfl⟩

def sp_is_row (K : PySem.W.Frag) : Sp := fun vs H Q _ => ∃ (g : Int) (v : V) (m : Int) (kb nb : Nat), vs = [.int g, v, .int m] ∧ TB kb (nb + 2) H v ∧ ∀ H', Same H H' → Q (.bl (rowOf H g m v)) H'

def sp_product_row (K : PySem.W.Frag) : Sp := fun vs H Q _ => ∃ (g : Int) (v : V) (c : Addr) (r : List (Int × Int)) (ss : List (List (Int × Int))) (cs : List V) (k : Nat), vs = [.int g, v, .ref c] ∧ (g = 0 ∨ (3 ≤ g ∧ g ≤ 13)) ∧ WR H v (wrT r) (wrB r) ∧ (∀ x ∈ r, OkN g k x) ∧ H c = some (.lst cs) ∧ cs.length = ss.length ∧ (∀ (i : Nat) (x : V) (s : List (Int × Int)), cs[i]? = some x → ss[i]? = some s → WR H x (wrT s) (wrB s)) ∧ (∀ s ∈ ss, s.length = r.length ∧ ∀ x ∈ s, OkN g k x) ∧ k * r.length ≤ 4000 ∧ k ≤ 800 ∧ r.length ≤ 10 ∧ ss.length ≤ 10 ∧ ∀ (v' : V) (H' : Hp), Same H H' → RowV H' v' (ss.map (cellF g r)) → Q v' H'

def sp_whole_table (K : PySem.W.Frag) : Sp := fun vs H Q _ => ∃ (v : V) (t : List (List (Int × Int))) (g : Int) (m k : Nat), vs = [v] ∧ TabV H v t ∧ 1 ≤ t.length ∧ t.length ≤ 10 ∧ 1 ≤ m ∧ m ≤ 10 ∧ (∀ r ∈ t, r.length = m ∧ ∀ x ∈ r, OkN g k x) ∧ 0 < k ∧ k * (m * t.length) ≤ 8000 ∧ k ≤ 1600 ∧
  ∀ (p L : Addr) (xs : List V) (H' : Hp), Same H H' → H' p = some (.tup [.ref L, .int (wtB t)]) → H' L = some (.lst xs) → Acc IL H' xs (wtT m t) (wtT m t).length → Q (.ref p) H'

def sp_determinant (K : PySem.W.Frag) : Sp := fun vs H Q _ => ∃ (g : Int) (v : V) (t : List (List (Int × Int))) (n k kb A : Nat) (F : Type) (R : Lean.Grind.CommRing F) (W : GV g F), vs = [.int g, v] ∧ (g = 0 ∨ Gr5 g) ∧ TabV H v t ∧ t.length = n ∧ (∀ r ∈ t, r.length = n ∧ ∀ a ∈ r, TN g kb a) ∧ 1 ≤ n ∧ n ≤ 20 ∧ 0 < kb ∧ kb * n ≤ 8000 ∧ kb ≤ 1600 ∧
  (∀ r ∈ t, (wrB r).natAbs ≤ A ∧ ∀ y ∈ wrT r, y.natAbs ≤ A) ∧ 1 ≤ A ∧ (n * A) ^ n < 2 ^ k ∧ 4 ≤ k ∧ k ≤ 4400 ∧
  ∀ (v' : V) (H' : Hp) (d : Int × Int), Same H H' → NumV H' v' d → TN g k d → W.e d = dC (t.map (er W)) (List.range n) → Q v' H'

def sp__law_plus (K : PySem.W.Frag) : Sp := fun vs H Q _ => ∃ (g : Int) (x y : V) (a c : Int × Int), vs = [.int g, x, y] ∧ 0 ≤ g ∧ g ≤ 13 ∧ NumV H x a ∧ NumV H y c ∧ PBe a ∧ PBe c ∧ ∀ (p : Addr) (H' : Hp), H p = none → Same H H' → H' p = some (.tup [.int (plusF g a c).1, .int (plusF g a c).2]) → Q (.ref p) H'

def sp__law_times (K : PySem.W.Frag) : Sp := fun vs H Q _ => ∃ (g : Int) (x y : V) (a c : Int × Int), vs = [.int g, x, y] ∧ 0 ≤ g ∧ g ≤ 13 ∧ NumV H x a ∧ NumV H y c ∧ PBe a ∧ PBe c ∧ ∀ (p : Addr) (H' : Hp), H p = none → Same H H' → H' p = some (.tup [.int (timesF g a c).1, .int (timesF g a c).2]) → Q (.ref p) H'

def sp__law_minus (K : PySem.W.Frag) : Sp := fun vs H Q _ => ∃ (g : Int) (x : V) (a : Int × Int), vs = [.int g, x] ∧ 0 ≤ g ∧ g ≤ 13 ∧ NumV H x a ∧ a.2.natAbs < 2 ^ 8000 ∧ a.2 ≠ 0 ∧ ∀ (p : Addr) (H' : Hp), H p = none → Same H H' → H' p = some (.tup [.int (minusF g a).1, .int (minusF g a).2]) → Q (.ref p) H'

def sp__law_over (K : PySem.W.Frag) : Sp := fun vs H Q _ => ∃ (g : Int) (x y : V) (a c : Int × Int), vs = [.int g, x, y] ∧ 0 ≤ g ∧ g ≤ 13 ∧ NumV H x a ∧ NumV H y c ∧ PBe a ∧ PBe c ∧ c.1 ≠ 0 ∧ ∀ (p : Addr) (H' : Hp), H p = none → Same H H' → H' p = some (.tup [.int (ovrF g a c).1, .int (ovrF g a c).2]) → Q (.ref p) H'

def sp__law_number (K : PySem.W.Frag) : Sp := fun vs H Q _ => ∃ (b : Addr) (g : Int), vs = [.ref b, .int g] ∧ Gr g ∧ Bag H b ∧ ∀ (H' : Hp) (v : V) (a : Int × Int), NumV H' v a → NG g 0 a → TN g 7 a → Mv b H H' → Bag H' b → Q v H'
theorem nu_six {i : Int} (h0 : 0 ≤ i) (h6 : i < 6) : ∃ m : Int, atI [V.int 3, V.int 5, V.int 5, V.int 9, V.int 19, V.int 99] i = some (.int m) ∧ 3 ≤ m ∧ m ≤ 99 := by
  rcases (by omega : i = 0 ∨ i = 1 ∨ i = 2 ∨ i = 3 ∨ i = 4 ∨ i = 5) with rfl | rfl | rfl | rfl | rfl | rfl <;> exact ⟨_, rfl, by decide, by decide⟩
theorem nu_four {i d : Int} (h0 : 0 ≤ i) (h4 : i < 4) (d0 : 0 ≤ d) (d8 : d < 8) : ∃ m : Int, atI [V.int 1, V.int 1, V.int 1, V.int (2 + d)] i = some (.int m) ∧ 1 ≤ m ∧ m ≤ 9 := by
  rcases (by omega : i = 0 ∨ i = 1 ∨ i = 2 ∨ i = 3) with rfl | rfl | rfl | rfl
  · exact ⟨_, rfl, by decide, by decide⟩
  · exact ⟨_, rfl, by decide, by decide⟩
  · exact ⟨_, rfl, by decide, by decide⟩
  · exact ⟨_, rfl, by omega, by omega⟩
theorem Gr.two {g : Int} (h : Gr g) : g = 0 ∨ Gr5 g := by
  unfold Gr at h
  unfold Gr5
  omega
theorem Gr.bd {g : Int} (h : Gr g) : 0 ≤ g ∧ g ≤ 13 := by
  unfold Gr at h
  omega
theorem Gr.three {g : Int} (h : Gr g) : g = 0 ∨ (3 ≤ g ∧ g ≤ 13) := by
  unfold Gr at h
  omega

def sp_is_table (K : PySem.W.Frag) : Sp := fun vs H Q _ => ∃ (g : Int) (v : V) (m w : Int) (kb nb : Nat), vs = [.int g, v, .int m, .int w] ∧ TB kb (nb + 3) H v ∧ ∀ H', Same H H' → Q (.bl (tabOf H g m w v)) H'

def sp_product (K : PySem.W.Frag) : Sp := fun vs H Q _ => ∃ (g : Int) (v1 v2 : V) (t1 t2 : List (List (Int × Int))) (n l k : Nat), vs = [.int g, v1, v2] ∧ (g = 0 ∨ (3 ≤ g ∧ g ≤ 13)) ∧ TabV H v1 t1 ∧ TabV H v2 t2 ∧ (∀ r ∈ t1, r.length = n ∧ ∀ x ∈ r, OkN g k x) ∧ t2.length = n ∧ (∀ r ∈ t2, r.length = l ∧ ∀ x ∈ r, OkN g k x) ∧ 0 < n ∧ n ≤ 10 ∧ l ≤ 10 ∧ t1.length ≤ 10 ∧ 0 < k ∧ k * n ≤ 4000 ∧ k ≤ 800 ∧ ∀ (v' : V) (H' : Hp), Same H H' → TabV H' v' (t1.map fun r => (turnF l t2).map (cellF g r)) → Q v' H'
theorem turn_ok {g : Int} {k n l : Nat} {t : List (List (Int × Int))} (ht : t.length = n) (h : ∀ r ∈ t, r.length = l ∧ ∀ x ∈ r, OkN g k x) : ∀ s ∈ turnF l t, s.length = n ∧ ∀ x ∈ s, OkN g k x := by
  intro s hs
  obtain ⟨j, hj, rfl⟩ := List.mem_map.mp hs
  have hj' := List.mem_range.mp hj
  refine ⟨by rw [List.length_map, ht], fun x hx => ?_⟩
  obtain ⟨r, hr, rfl⟩ := List.mem_map.mp hx
  have hl := (h r hr).1
  refine (h r hr).2 _ ?_
  show r.getD j (0, 1) ∈ r
  rw [List.getD_eq_getElem?_getD, List.getElem?_eq_getElem (by omega)]
  exact List.getElem_mem (by omega)

def sp_want_rows (K : PySem.W.Frag) : Sp := fun vs H Q _ => ∃ (f tv : V) (g : Int) (L : Addr) (xs : List V) (t rs : List (List (Int × Int))) (m k : Nat), vs = [f, .ref L] ∧ FormV K H f g tv ∧ TabV H tv t ∧ t.length = m ∧ m ≤ 100 ∧ H L = some (.lst xs) ∧ Acc RowV H xs rs rs.length ∧ (∀ r ∈ rs, r.length = m ∧ ∀ a ∈ r, TN g k a) ∧ ∀ H', Same H H' → Q .non H'

def sp_first_changed (K : PySem.W.Frag) : Sp := fun vs H Q _ => ∃ (g : Int) (f tv kv : V) (t T : List (List (Int × Int))) (m : Nat) (Dt D : Int) (Mt M s A : Nat) (F : Type) (R : Lean.Grind.CommRing F) (W : GV g F), vs = [f, kv] ∧ (g = 0 ∨ Gr5 g) ∧ FormV K H f g tv ∧ TabV H tv t ∧ TabV H kv T ∧ t.length = m ∧ 1 ≤ m ∧ m ≤ 5 ∧ SymF (t.map (er W)) m ∧ (∀ r ∈ t, RZ g Dt Mt m r) ∧ T.length = m ∧ (∀ r ∈ T, RZ g D M m r) ∧ Dt ≠ 0 ∧ D ≠ 0 ∧ Dt.natAbs ≤ 2 ^ s ∧ Mt ≤ 2 ^ s ∧ D.natAbs ≤ 2 ^ A ∧ M ≤ 2 ^ A ∧ 4 ≤ s ∧ s ≤ 300 ∧ 4 ≤ A ∧ A ≤ 1500 ∧ Keeps W (t.map (er W)) m T ∧ ∀ H', Same H H' → Q .non H'

/-- rows by which mirrors are reckoned -/
def PlR {g : Int} {F : Type} [Lean.Grind.CommRing F] (W : GV g F) (t : List (List (Int × Int))) (m k a : Nat) (r : List (Int × Int)) : Prop := r.length = m ∧ (∀ x ∈ r, TN g k x) ∧ (∀ y ∈ plainF g (wrT r), y.natAbs ≤ 2 ^ a) ∧ bil (t.map (er W)) m (er W r) (er W r) ≠ 0
def sp_whole_mirrors (K : PySem.W.Frag) : Sp := fun vs H Q _ => ∃ (g : Int) (f tv : V) (L : Addr) (xs : List V) (t rs : List (List (Int × Int))) (m : Nat) (Dt : Int) (Mt s a k : Nat) (F : Type) (R : Lean.Grind.CommRing F) (W : GV g F), vs = [f, .ref L] ∧ (g = 0 ∨ Gr5 g) ∧ FormV K H f g tv ∧ TabV H tv t ∧ t.length = m ∧ 1 ≤ m ∧ m ≤ 5 ∧ SymF (t.map (er W)) m ∧ (∀ r ∈ t, RZ g Dt Mt m r) ∧ Dt ≠ 0 ∧ Dt.natAbs ≤ 2 ^ s ∧ Mt ≤ 2 ^ s ∧ 4 ≤ s ∧ s ≤ 300 ∧ H L = some (.lst xs) ∧ Acc RowV H xs rs rs.length ∧ (∀ r ∈ rs, PlR W t m k a r) ∧ 4 ≤ k ∧ k ≤ 1300 ∧ 4 + rs.length * (8 + 2 * a + s) ≤ 4900 ∧ 8 + 2 * a + s ≤ 4900 ∧
  ∀ (p Lt : Addr) (bot : Int) (tops : List (List Int)) (H' : Hp), Same H H' → H' p = some (.tup [.ref Lt, .int bot]) → ILs H' (.ref Lt) tops → Wms W (t.map (er W)) m (rs.map (er W)) bot tops (4 + rs.length * (8 + 2 * a + s)) → Q (.ref p) H'

def sp__law_sum (K : PySem.W.Frag) : Sp := fun vs H Q _ => ∃ (g : Int) (L : Addr) (xs : List V) (as : List (Int × Int)) (D : Int) (M k : Nat) (F : Type) (R : Lean.Grind.CommRing F) (W : GV g F), vs = [.int g, .ref L] ∧ (g = 0 ∨ Gr5 g) ∧ H L = some (.lst xs) ∧ Acc NumV H xs as as.length ∧ (∀ a ∈ as, TZ g D M a) ∧ D ≠ 0 ∧ D.natAbs < 2 ^ k ∧ (as.length + 1) * M < 2 ^ k ∧ 4 ≤ k ∧ k ≤ 3900 ∧
  ∀ (v : V) (H' : Hp) (d : Int × Int), Same H H' → NumV H' v d → TZ g D (as.length * M) d → W.e d = SF (fun i => W.e (as.getD i (0, 1))) as.length → Q v H'

def sp__law_scaled (K : PySem.W.Frag) : Sp := fun vs H Q _ => ∃ (g : Int) (x y : V) (r : List (Int × Int)) (c : Int × Int), vs = [.int g, x, y] ∧ 0 ≤ g ∧ g ≤ 13 ∧ RowV H x r ∧ NumV H y c ∧ r.length ≤ 100 ∧ (∀ a ∈ r, PBe a) ∧ PBe c ∧ ∀ (v : V) (H' : Hp), Same H H' → RowV H' v (r.map fun a => timesF g a c) → Q v H'

def sp__law_added (K : PySem.W.Frag) : Sp := fun vs H Q _ => ∃ (g : Int) (x y : V) (r s : List (Int × Int)), vs = [.int g, x, y] ∧ 0 ≤ g ∧ g ≤ 13 ∧ RowV H x r ∧ RowV H y s ∧ r.length = s.length ∧ r.length ≤ 100 ∧ (∀ a ∈ r, PBe a) ∧ (∀ a ∈ s, PBe a) ∧ ∀ (v : V) (H' : Hp), Same H H' → RowV H' v (List.zipWith (plusF g) r s) → Q v H'

def sp__law_other_than_nought (K : PySem.W.Frag) : Sp := fun vs H Q _ => ∃ (b : Addr) (g : Int), vs = [.ref b, .int g] ∧ Gr g ∧ Bag H b ∧ ∀ (H' : Hp) (v : V) (a : Int × Int), NumV H' v a → NG g 0 a → TN g 7 a → a.1 ≠ 0 → Mv b H H' → Bag H' b → Q v H'
theorem pick_two {b : Bool} {x y : V} : atI [x, y] (if b = true then 1 else 0) = some (if b = true then y else x) := by
  cases b <;> rfl

def sp__law_row (K : PySem.W.Frag) : Sp := fun vs H Q _ => ∃ (b : Addr) (g m : Int), vs = [.ref b, .int g, .int m] ∧ Gr g ∧ 0 ≤ m ∧ m ≤ 10 ∧ Bag H b ∧ ∀ (H' : Hp) (v : V) (r : List (Int × Int)), RowV H' v r → r.length = m.toNat → (∀ a ∈ r, NG g 0 a ∧ TN g 7 a) → Mv b H H' → Bag H' b → Q v H'

def sp_through (K : PySem.W.Frag) : Sp := fun vs H Q _ => ∃ (g : Int) (x y : V) (r : List (Int × Int)) (t : List (List (Int × Int))) (n : Nat) (Dr Dt : Int) (Mr Mt k : Nat) (F : Type) (R : Lean.Grind.CommRing F) (W : GV g F), vs = [.int g, x, y] ∧ (g = 0 ∨ Gr5 g) ∧ RowV H x r ∧ TabV H y t ∧ RZ g Dr Mr n r ∧ t.length = n ∧ (∀ q ∈ t, RZ g Dt Mt n q) ∧ 1 ≤ n ∧ n ≤ 5 ∧ Dr ≠ 0 ∧ Dt ≠ 0 ∧ Dr.natAbs < 2 ^ k ∧ Dt.natAbs < 2 ^ k ∧ Mr < 2 ^ k ∧ Mt < 2 ^ k ∧ 4 ≤ k ∧ k ≤ 800 ∧
  ∀ (v : V) (H' : Hp) (s : List (Int × Int)), Same H H' → RowV H' v s → RZ g (Dr * Dt) (n * (Mr * Mt)) n s → er W s = thr (t.map (er W)) (er W r) → Q v H'

def sp_is_form_table (K : PySem.W.Frag) : Sp := fun vs H Q _ => ∃ (g : Int) (v : V) (t : List (List (Int × Int))) (m : Nat) (D : Int) (M a : Nat) (F : Type) (R : Lean.Grind.CommRing F) (W : GV g F), vs = [.int g, v] ∧ (g = 0 ∨ Gr5 g) ∧ TabV H v t ∧ FrmT W D M m t ∧ 1 ≤ m ∧ m ≤ 5 ∧ (g ≠ 0 → m ≤ 4) ∧ D ≠ 0 ∧ D.natAbs ≤ 2 ^ a ∧ M ≤ 2 ^ a ∧ 4 ≤ a ∧ a ≤ 800 ∧ ∀ H', Same H H' → Q (.bl true) H'
theorem ift_sz {m a : Nat} (hm : m ≤ 5) (ha : a ≤ 800) : (m * 2 ^ a) ^ m < 2 ^ 4200 := by
  have h1 : m * 2 ^ a ≤ 2 ^ (3 + a) := pw_mul (pw_five hm).1 (Nat.le_refl _)
  have h2 : (m * 2 ^ a) ^ m ≤ (2 ^ (3 + a)) ^ m := Nat.pow_le_pow_left h1 m
  rw [← Nat.pow_mul] at h2
  refine Nat.lt_of_le_of_lt h2 (Nat.pow_lt_pow_right (by decide) ?_)
  have : (3 + a) * m ≤ 803 * 5 := Nat.mul_le_mul (by omega) hm
  omega

def sp_want_list_of_rows (K : PySem.W.Frag) : Sp := fun vs H Q _ => ∃ (f tv : V) (g : Int) (L : Addr) (xs : List V) (t rs : List (List (Int × Int))) (m k : Nat), vs = [f, .ref L] ∧ FormV K H f g tv ∧ TabV H tv t ∧ t.length = m ∧ m ≤ 100 ∧ H L = some (.lst xs) ∧ Acc RowV H xs rs rs.length ∧ (∀ r ∈ rs, r.length = m ∧ ∀ a ∈ r, TN g k a) ∧ ∀ H', Same H H' → Q .non H'

def sp_products (K : PySem.W.Frag) : Sp := fun vs H Q _ => ∃ (g : Int) (f tv x y : V) (t rs ss : List (List (Int × Int))) (m : Nat) (Dt Dr Ds : Int) (Mt Mr Ms k : Nat) (F : Type) (R : Lean.Grind.CommRing F) (W : GV g F), vs = [f, x, y] ∧ (g = 0 ∨ Gr5 g) ∧ FormV K H f g tv ∧ TabV H tv t ∧ TabV H x rs ∧ TabV H y ss ∧ t.length = m ∧ 1 ≤ m ∧ m ≤ 5 ∧ rs.length ≤ 10 ∧ 1 ≤ ss.length ∧ ss.length ≤ 10 ∧
  (∀ r ∈ t, RZ g Dt Mt m r) ∧ (∀ r ∈ rs, RZ g Dr Mr m r) ∧ (∀ r ∈ ss, RZ g Ds Ms m r) ∧ Dt ≠ 0 ∧ Dr ≠ 0 ∧ Ds ≠ 0 ∧ Dt.natAbs < 2 ^ k ∧ Dr.natAbs < 2 ^ k ∧ Ds.natAbs < 2 ^ k ∧ (Dr * Dt).natAbs < 2 ^ k ∧ Mt < 2 ^ k ∧ Mr < 2 ^ k ∧ Ms < 2 ^ k ∧ m * (Mr * Mt) < 2 ^ k ∧ 4 ≤ k ∧ k ≤ 800 ∧
  ∀ (v : V) (H' : Hp) (T : List (List (Int × Int))), Same H H' → TabV H' v T → T.length = rs.length → (∀ r ∈ T, RZ g (Dr * Dt * Ds) (m * (m * (Mr * Mt) * Ms)) ss.length r) → (∀ (i j : Nat) (r s q : List (Int × Int)), rs[i]? = some r → ss[j]? = some s → T[i]? = some q → er W q j = bil (t.map (er W)) m (er W r) (er W s)) → Q v H'

/-- a form's table and a table that keeps it -/
def KpOK {g : Int} {F : Type} [Lean.Grind.CommRing F] (W : GV g F) (t T : List (List (Int × Int))) (m : Nat) : Prop := ∃ (Dt D : Int) (Mt M s A : Nat), t.length = m ∧ 1 ≤ m ∧ m ≤ 5 ∧ SymF (t.map (er W)) m ∧ (∀ r ∈ t, RZ g Dt Mt m r) ∧ T.length = m ∧ (∀ r ∈ T, RZ g D M m r) ∧ Dt ≠ 0 ∧ D ≠ 0 ∧ Dt.natAbs ≤ 2 ^ s ∧ Mt ≤ 2 ^ s ∧ D.natAbs ≤ 2 ^ A ∧ M ≤ 2 ^ A ∧ 4 ≤ s ∧ s ≤ 300 ∧ 4 ≤ A ∧ A ≤ 1500 ∧ Keeps W (t.map (er W)) m T
def sp_Keeper___init__ (K : PySem.W.Frag) : Sp := fun vs H Q _ => ∃ (x dx : Addr) (fv tv kv : V) (g : Int) (t T : List (List (Int × Int))) (m : Nat) (F : Type) (R : Lean.Grind.CommRing F) (W : GV g F), vs = [.ref x, fv, kv] ∧ H x = some (.ins (He.ga K "Keeper") dx []) ∧ (g = 0 ∨ Gr5 g) ∧ FormV K H fv g tv ∧ TabV H tv t ∧ TabV H kv T ∧ KpOK W t T m ∧
  ∀ H', (∀ b o, b ≠ x → H b = some o → H' b = some o) → H' x = some (.ins (He.ga K "Keeper") dx [("form", fv), ("table", kv)]) → Q .non H'
theorem keeper_mk {K : PySem.W.Frag} {H : Hp} {Q : Addr → Hp → Prop} {E : XK} {fv tv kv : V} {g : Int} {t T : List (List (Int × Int))} {m : Nat} {F : Type} {R : Lean.Grind.CommRing F} {W : GV g F} (hg : g = 0 ∨ Gr5 g) (hf : FormV K H fv g tv) (ht : TabV H tv t) (hk : TabV H kv T) (h : KpOK W t T m)
    (q : ∀ (x : Addr) (H' : Hp), Same H H' → KeepV K H' (.ref x) fv kv → H x = none → Q x H') :
    ∀ x dx, H x = none → H dx = none → dx ≠ x → sp_Keeper___init__ K [.ref x, fv, kv] (upd (upd H dx (.own x)) x (.ins (He.ga K "Keeper") dx [])) (fun v H2 => v = .non ∧ Q x H2) E := fun x dx hx hdx hne =>
  ⟨x, dx, fv, tv, kv, g, t, T, m, F, R, W, rfl, upd_same, hg, hf.sm (made_same0 hx hdx), TabV.kt ht (Kt.of (made_same0 hx hdx)), TabV.kt hk (Kt.of (made_same0 hx hdx)), h, fun H' k1 k2 => ⟨rfl, q _ _ (made_same hx hdx k1) ⟨x, dx, rfl, k2⟩ hx⟩⟩

def sp_mirrors_table (K : PySem.W.Frag) : Sp := fun vs H Q _ => ∃ (g : Int) (f tv : V) (L : Addr) (xs : List V) (t rs : List (List (Int × Int))) (m : Nat) (Dt : Int) (Mt s a k : Nat) (F : Type) (R : Lean.Grind.CommRing F) (W : GV g F), vs = [f, .ref L] ∧ (g = 0 ∨ Gr5 g) ∧ FormV K H f g tv ∧ TabV H tv t ∧ t.length = m ∧ 1 ≤ m ∧ m ≤ 5 ∧ SymF (t.map (er W)) m ∧ (∀ r ∈ t, RZ g Dt Mt m r) ∧ Dt ≠ 0 ∧ Dt.natAbs ≤ 2 ^ s ∧ Mt ≤ 2 ^ s ∧ 4 ≤ s ∧ s ≤ 300 ∧ H L = some (.lst xs) ∧ Acc RowV H xs rs rs.length ∧ (∀ r ∈ rs, PlR W t m k a r) ∧ 4 ≤ k ∧ k ≤ 1300 ∧ 4 + rs.length * (8 + 2 * a + s) ≤ 4900 ∧ 8 + 2 * a + s ≤ 4900 ∧
  ∀ (v : V) (T : List (List (Int × Int))) (D : Int) (H' : Hp), Same H H' → TabV H' v T → TabL W m (mirsF W (t.map (er W)) m (rs.map (er W))) T → D ≠ 0 → D.natAbs ≤ 2 ^ (4 + rs.length * (8 + 2 * a + s)) → (∀ q ∈ T, RZ g D (2 ^ (4 + rs.length * (8 + 2 * a + s))) m q) → Q v H'

def sp__law_through (K : PySem.W.Frag) : Sp := fun vs H Q _ => ∃ (g : Int) (x y : V) (r : List (Int × Int)) (t : List (List (Int × Int))) (n m : Nat) (Dr Dt : Int) (Mr Mt k : Nat) (F : Type) (R : Lean.Grind.CommRing F) (W : GV g F), vs = [.int g, x, y] ∧ (g = 0 ∨ Gr5 g) ∧ RowV H x r ∧ TabV H y t ∧ RZ g Dr Mr m r ∧ t.length = m ∧ 1 ≤ m ∧ m ≤ 20 ∧ n ≤ 20 ∧ (∀ s ∈ t, RZ g Dt Mt n s) ∧ Dr ≠ 0 ∧ Dt ≠ 0 ∧ (Dt * Dr).natAbs < 2 ^ k ∧ Mr < 2 ^ k ∧ Mt < 2 ^ k ∧ (m + 1) * (Mt * Mr) < 2 ^ k ∧ 4 ≤ k ∧ k ≤ 3900 ∧
  ∀ (v : V) (H' : Hp) (w : List (Int × Int)), Same H H' → RowV H' v w → RZ g (Dt * Dr) (m * (Mt * Mr)) n w → er W w = thr (t.map (er W)) (er W r) → Q v H'

def sp_Form___init__ (K : PySem.W.Frag) : Sp := fun vs H Q _ => ∃ (x dx : Addr) (tv : V) (g : Int) (t : List (List (Int × Int))) (m : Nat) (D : Int) (M a : Nat) (F : Type) (R : Lean.Grind.CommRing F) (W : GV g F), vs = [.ref x, tv, .int g] ∧ H x = some (.ins (He.ga K "Form") dx []) ∧ (g = 0 ∨ Gr5 g) ∧ TabV H tv t ∧ FrmT W D M m t ∧ 1 ≤ m ∧ m ≤ 5 ∧ (g ≠ 0 → m ≤ 4) ∧ D ≠ 0 ∧ D.natAbs ≤ 2 ^ a ∧ M ≤ 2 ^ a ∧ 4 ≤ a ∧ a ≤ 800 ∧
  ∀ H', (∀ b o, b ≠ x → H b = some o → H' b = some o) → H' x = some (.ins (He.ga K "Form") dx [("table", tv), ("ground", .int g)]) → Q .non H'
theorem form_mk {K : PySem.W.Frag} {H : Hp} {Q : Addr → Hp → Prop} {E : XK} {tv : V} {g : Int} {t : List (List (Int × Int))} {m : Nat} {D : Int} {M a : Nat} {F : Type} {R : Lean.Grind.CommRing F} {W : GV g F} (hg : g = 0 ∨ Gr5 g) (ht : TabV H tv t) (hf : FrmT W D M m t) (hm1 : 1 ≤ m) (hm : m ≤ 5) (hmw : g ≠ 0 → m ≤ 4) (hD0 : D ≠ 0) (hD : D.natAbs ≤ 2 ^ a) (hM : M ≤ 2 ^ a) (ha4 : 4 ≤ a) (ha : a ≤ 800)
    (q : ∀ (f : Addr) (H' : Hp), Same H H' → FormV K H' (.ref f) g tv → Q f H') :
    ∀ x dx, H x = none → H dx = none → dx ≠ x → sp_Form___init__ K [.ref x, tv, .int g] (upd (upd H dx (.own x)) x (.ins (He.ga K "Form") dx [])) (fun v H2 => v = .non ∧ Q x H2) E := fun x dx hx hdx hne =>
  ⟨x, dx, tv, g, t, m, D, M, a, F, R, W, rfl, upd_same, hg, TabV.kt ht (Kt.of (made_same0 hx hdx)), hf, hm1, hm, hmw, hD0, hD, hM, ha4, ha, fun H' k1 k2 => ⟨rfl, q _ _ (made_same hx hdx k1) ⟨x, dx, rfl, k2⟩⟩⟩

def sp_worth_of (K : PySem.W.Frag) : Sp := fun vs H Q _ => ∃ (g : Int) (f tv y : V) (t : List (List (Int × Int))) (r : List (Int × Int)) (m : Nat) (Dt Dr : Int) (Mt Mr k : Nat) (F : Type) (R : Lean.Grind.CommRing F) (W : GV g F), vs = [f, y] ∧ (g = 0 ∨ Gr5 g) ∧ FormV K H f g tv ∧ TabV H tv t ∧ RowV H y r ∧ t.length = m ∧ 1 ≤ m ∧ m ≤ 5 ∧
  (∀ r ∈ t, RZ g Dt Mt m r) ∧ RZ g Dr Mr m r ∧ Dt ≠ 0 ∧ Dr ≠ 0 ∧ Dt.natAbs < 2 ^ k ∧ Dr.natAbs < 2 ^ k ∧ (Dr * Dt).natAbs < 2 ^ k ∧ Mt < 2 ^ k ∧ Mr < 2 ^ k ∧ m * (Mr * Mt) < 2 ^ k ∧ 4 ≤ k ∧ k ≤ 800 ∧
  ∀ (v : V) (H' : Hp) (d : Int × Int), Same H H' → NumV H' v d → TZ g (Dr * Dt * Dr) (m * (m * (Mr * Mt) * Mr)) d → W.e d = bil (t.map (er W)) m (er W r) (er W r) → Q v H'

def sp_Keeper_of (K : PySem.W.Frag) : Sp := fun vs H Q _ => ∃ (g : Int) (x f tv kv y : V) (t T : List (List (Int × Int))) (r : List (Int × Int)) (m : Nat) (D Dr : Int) (M Mr k : Nat) (F : Type) (R : Lean.Grind.CommRing F) (W : GV g F), vs = [x, y] ∧ (g = 0 ∨ Gr5 g) ∧ KeepV K H x f kv ∧ FormV K H f g tv ∧ TabV H tv t ∧ TabV H kv T ∧ RowV H y r ∧ t.length = m ∧ 1 ≤ m ∧ m ≤ 5 ∧ T.length = m ∧ (∀ q ∈ T, RZ g D M m q) ∧ RZ g Dr Mr m r ∧ D ≠ 0 ∧ Dr ≠ 0 ∧ D.natAbs < 2 ^ k ∧ Dr.natAbs < 2 ^ k ∧ M < 2 ^ k ∧ Mr < 2 ^ k ∧ 4 ≤ k ∧ k ≤ 800 ∧
  ∀ (v : V) (H' : Hp) (s : List (Int × Int)), Same H H' → RowV H' v s → RZ g (Dr * D) (m * (Mr * M)) m s → er W s = thr (T.map (er W)) (er W r) → Q v H'

def sp__law_product (K : PySem.W.Frag) : Sp := fun vs H Q _ => ∃ (g : Int) (x y : V) (s t : List (List (Int × Int))) (n m : Nat) (Dr Dt : Int) (Mr Mt k : Nat) (F : Type) (R : Lean.Grind.CommRing F) (W : GV g F), vs = [.int g, x, y] ∧ (g = 0 ∨ Gr5 g) ∧ TabV H x s ∧ TabV H y t ∧ (∀ r ∈ s, RZ g Dr Mr m r) ∧ s.length ≤ 20 ∧ t.length = m ∧ 1 ≤ m ∧ m ≤ 20 ∧ n ≤ 20 ∧ (∀ s ∈ t, RZ g Dt Mt n s) ∧ Dr ≠ 0 ∧ Dt ≠ 0 ∧ (Dt * Dr).natAbs < 2 ^ k ∧ Mr < 2 ^ k ∧ Mt < 2 ^ k ∧ (m + 1) * (Mt * Mr) < 2 ^ k ∧ 4 ≤ k ∧ k ≤ 3900 ∧
  ∀ (v : V) (H' : Hp) (T : List (List (Int × Int))), Same H H' → TabV H' v T → T.length = s.length → (∀ r ∈ T, RZ g (Dt * Dr) (m * (Mt * Mr)) n r) → T.map (er W) = (s.map (er W)).map (thr (t.map (er W))) → Q v H'

def sp__law_pair (K : PySem.W.Frag) : Sp := fun vs H Q _ => ∃ (g : Int) (x y z : V) (t : List (List (Int × Int))) (r s : List (Int × Int)) (m : Nat) (Dt Dr Ds : Int) (Mt Mr Ms k : Nat) (F : Type) (R : Lean.Grind.CommRing F) (W : GV g F), vs = [.int g, x, y, z] ∧ (g = 0 ∨ Gr5 g) ∧ TabV H x t ∧ RowV H y r ∧ RowV H z s ∧ t.length = m ∧ 1 ≤ m ∧ m ≤ 20 ∧ (∀ q ∈ t, RZ g Dt Mt m q) ∧ RZ g Dr Mr m r ∧ RZ g Ds Ms m s ∧ Dt ≠ 0 ∧ Dr ≠ 0 ∧ Ds ≠ 0 ∧ (Dt * Dr * Ds).natAbs < 2 ^ k ∧ Mt < 2 ^ k ∧ Mr < 2 ^ k ∧ Ms < 2 ^ k ∧ (m + 1) * (Mt * Mr) < 2 ^ k ∧ (m + 1) * (m * (Mt * Mr) * Ms) < 2 ^ k ∧ 4 ≤ k ∧ k ≤ 3900 ∧
  ∀ (v : V) (H' : Hp) (d : Int × Int), Same H H' → NumV H' v d → TZ g (Dt * Dr * Ds) (m * (m * (Mt * Mr) * Ms)) d → W.e d = bil (t.map (er W)) m (er W r) (er W s) → Q v H'

def sp_want_worths (K : PySem.W.Frag) : Sp := fun vs H Q _ => ∃ (g : Int) (f tv : V) (L : Addr) (xs : List V) (t rs : List (List (Int × Int))) (m : Nat) (Dt Dr : Int) (Mt Mr k : Nat) (F : Type) (R : Lean.Grind.CommRing F) (W : GV g F), vs = [f, .ref L] ∧ (g = 0 ∨ Gr5 g) ∧ FormV K H f g tv ∧ TabV H tv t ∧ H L = some (.lst xs) ∧ Acc RowV H xs rs rs.length ∧ t.length = m ∧ 1 ≤ m ∧ m ≤ 5 ∧
  (∀ r ∈ t, RZ g Dt Mt m r) ∧ (∀ r ∈ rs, RZ g Dr Mr m r ∧ bil (t.map (er W)) m (er W r) (er W r) ≠ 0) ∧ Dt ≠ 0 ∧ Dr ≠ 0 ∧ Dt.natAbs < 2 ^ k ∧ Dr.natAbs < 2 ^ k ∧ (Dr * Dt).natAbs < 2 ^ k ∧ Mt < 2 ^ k ∧ Mr < 2 ^ k ∧ m * (Mr * Mt) < 2 ^ k ∧ 4 ≤ k ∧ k ≤ 800 ∧
  ∀ H', Same H H' → Q .non H'

def sp__law_worth (K : PySem.W.Frag) : Sp := fun vs H Q _ => ∃ (g : Int) (x y : V) (t : List (List (Int × Int))) (r : List (Int × Int)) (m : Nat) (Dt Dr : Int) (Mt Mr k : Nat) (F : Type) (R : Lean.Grind.CommRing F) (W : GV g F), vs = [.int g, x, y] ∧ (g = 0 ∨ Gr5 g) ∧ TabV H x t ∧ RowV H y r ∧ t.length = m ∧ 1 ≤ m ∧ m ≤ 20 ∧ (∀ q ∈ t, RZ g Dt Mt m q) ∧ RZ g Dr Mr m r ∧ Dt ≠ 0 ∧ Dr ≠ 0 ∧ (Dt * Dr * Dr).natAbs < 2 ^ k ∧ Mt < 2 ^ k ∧ Mr < 2 ^ k ∧ (m + 1) * (Mt * Mr) < 2 ^ k ∧ (m + 1) * (m * (Mt * Mr) * Mr) < 2 ^ k ∧ 4 ≤ k ∧ k ≤ 3900 ∧
  ∀ (v : V) (H' : Hp) (d : Int × Int), Same H H' → NumV H' v d → TZ g (Dt * Dr * Dr) (m * (m * (Mt * Mr) * Mr)) d → W.e d = bil (t.map (er W)) m (er W r) (er W r) → Q v H'

def sp__law_changed (K : PySem.W.Frag) : Sp := fun vs H Q _ => ∃ (b : Addr) (g : Int) (x : V) (t : List (List (Int × Int))) (m : Nat) (F : Type) (R : Lean.Grind.CommRing F) (W : GV g F), vs = [.ref b, .int g, x] ∧ Gr g ∧ Bag H b ∧ TabV H x t ∧ FrmT W 2520 161280 m t ∧ 1 ≤ m ∧ m ≤ 5 ∧
  ∀ (H' : Hp) (v : V) (T : List (List (Int × Int))), TabV H' v T → FrmT W 2520 16128000000000 m T → Mv b H H' → Bag H' b → Q v H'
/-- a list of numbers that may be changed -/
def LRow (H : Hp) (v : V) (r : List (Int × Int)) : Prop := ∃ p xs, v = .ref p ∧ H p = some (.lst xs) ∧ Acc NumV H xs r r.length
theorem LRow.sm {H H' : Hp} {v : V} {r : List (Int × Int)} (h : LRow H v r) (s : Same H H') : LRow H' v r := by
  obtain ⟨p, xs, e, hp, ha⟩ := h
  exact ⟨p, xs, e, s _ _ hp, ha.mono fun x a h => NumV.kt h (Kt.of s)⟩
theorem LRow.upd {H : Hp} {v : V} {r : List (Int × Int)} {D : Addr} {xs ys : List V} (h : LRow H v r) (hD : H D = some (.lst xs)) (hn : v ≠ .ref D) : LRow (upd H D (.lst ys)) v r := by
  obtain ⟨p, zs, e, hp, ha⟩ := h
  refine ⟨p, zs, e, ?_, ha.mono fun x a h => NumV.kt h (Kt.updL hD)⟩
  rw [upd_ne (fun z => hn (by rw [e, z]))]
  exact hp
theorem pick3 {i : Int} {x y z : V} (h0 : 0 ≤ i) (h3 : i < 3) : ∃ v, atI [x, y, z] i = some v ∧ (v = x ∨ v = y ∨ v = z) := by
  rcases (by omega : i = 0 ∨ i = 1 ∨ i = 2) with rfl | rfl | rfl
  · exact ⟨_, rfl, .inl rfl⟩
  · exact ⟨_, rfl, .inr (.inl rfl)⟩
  · exact ⟨_, rfl, .inr (.inr rfl)⟩
theorem ixN_nat {n j : Nat} (h : j < n) : ixN n (j : Int) = some j := by
  unfold ixN
  simp
  omega
theorem frm_mono {g : Int} {F : Type} [Lean.Grind.CommRing F] {W : GV g F} {D : Int} {M N m : Nat} {t : List (List (Int × Int))} (h : FrmT W D M m t) (hM : M ≤ N) : FrmT W D N m t := ⟨h.len, fun r hr => ⟨(h.row r hr).1, fun a ha => ((h.row r hr).2 a ha).mono hM⟩, h.sym, h.det⟩
theorem pow100 {i : Nat} (h : i ≤ 4) : 161280 * 100 ^ i ≤ 16128000000000 := by
  have : 100 ^ i ≤ 100 ^ 4 := Nat.pow_le_pow_right (by decide) h
  omega

def sp_mirror (K : PySem.W.Frag) : Sp := fun vs H Q _ => ∃ (g : Int) (f tv y : V) (t : List (List (Int × Int))) (r : List (Int × Int)) (m : Nat) (Dt Dr : Int) (Mt Mr s a : Nat) (F : Type) (R : Lean.Grind.CommRing F) (W : GV g F), vs = [f, y] ∧ (g = 0 ∨ Gr5 g) ∧ FormV K H f g tv ∧ TabV H tv t ∧ RowV H y r ∧ t.length = m ∧ 1 ≤ m ∧ m ≤ 5 ∧ SymF (t.map (er W)) m ∧ (∀ q ∈ t, RZ g Dt Mt m q) ∧ RZ g Dr Mr m r ∧ Dt ≠ 0 ∧ Dr ≠ 0 ∧ Dt.natAbs ≤ 2 ^ s ∧ Mt ≤ 2 ^ s ∧ Dr.natAbs ≤ 2 ^ a ∧ Mr ≤ 2 ^ a ∧ 4 ≤ s ∧ s ≤ 300 ∧ 4 ≤ a ∧ 12 + 2 * a + s ≤ 780 ∧ bil (t.map (er W)) m (er W r) (er W r) ≠ 0 ∧
  ∀ (x : Addr) (kv : V) (T : List (List (Int × Int))) (D : Int) (H' : Hp), Same H H' → KeepV K H' (.ref x) f kv → TabV H' kv T → TabL W m (mirF W (t.map (er W)) m (er W r)) T → D ≠ 0 → D.natAbs ≤ 2 ^ (12 + 2 * a + s) → (∀ q ∈ T, RZ g D (2 ^ (12 + 2 * a + s)) m q) → KpOK W t T m → Q (.ref x) H'
theorem plain_sz {g : Int} (hg : g = 0 ∨ Gr5 g) {D : Int} {M m a : Nat} {r : List (Int × Int)} (h : RZ g D M m r) (hD : D ≠ 0) (bD : D.natAbs ≤ 2 ^ a) (bM : M ≤ 2 ^ a) (ha : 4 ≤ a) : ∀ y ∈ plainF g (wrT r), y.natAbs ≤ 2 ^ a := fun y hy => by
  have h16 : 13 ≤ 2 ^ a := Nat.le_trans (show 13 ≤ 2 ^ 4 by decide) (Nat.pow_le_pow_right (by decide) ha)
  obtain ⟨i, hi, rfl⟩ := List.mem_iff_getElem.mp hy
  have e : gt (plainF g (wrT r)) i = (plainF g (wrT r))[i] := by
    unfold gt
    rw [List.getD_eq_getElem?_getD, List.getElem?_eq_getElem hi]
    rfl
  by_cases hg0 : g = 0
  · subst hg0
    rw [← e]
    exact plain_abs (wr_tz hg h.2 hD bD bM h16).2 i
  · have := plain_ing hg (wrT r) hg0 i
    rw [e] at this
    have : g ≤ 13 := by have := hg.resolve_left hg0; unfold Gr5 at this; omega
    omega
theorem PlR.of {g : Int} {F : Type} [Lean.Grind.CommRing F] {W : GV g F} (hg : g = 0 ∨ Gr5 g) {t : List (List (Int × Int))} {m a : Nat} {D : Int} {M : Nat} {r : List (Int × Int)} (h : RZ g D M m r) (hD : D ≠ 0) (bD : D.natAbs ≤ 2 ^ a) (bM : M ≤ 2 ^ a) (ha : 4 ≤ a) (hw : bil (t.map (er W)) m (er W r) (er W r) ≠ 0) : PlR W t m (a + 1) a r :=
  ⟨h.1, h.tn hg (by omega) hD (pw_lt bD (by omega)) (pw_lt bM (by omega)), plain_sz hg h hD bD bM ha, hw⟩

def sp__law_mirror (K : PySem.W.Frag) : Sp := fun vs H Q _ => ∃ (g : Int) (x y : V) (t : List (List (Int × Int))) (r : List (Int × Int)) (m : Nat) (Dt : Int) (Mt dt et : Nat) (F : Type) (R : Lean.Grind.CommRing F) (W : GV g F), vs = [.int g, x, y] ∧ (g = 0 ∨ Gr5 g) ∧ TabV H x t ∧ RowV H y r ∧ 1 ≤ m ∧ m ≤ 5 ∧ t.length = m ∧ (∀ q ∈ t, RZ g Dt Mt m q) ∧ Dt ≠ 0 ∧ Dt.natAbs ≤ 2 ^ dt ∧ Mt ≤ 2 ^ et ∧ (∃ (Dr : Int) (Mr dr er' : Nat), RZ g Dr Mr m r ∧ Dr ≠ 0 ∧ Dr.natAbs ≤ 2 ^ dr ∧ Mr ≤ 2 ^ er' ∧ mirE dt et dr er' ≤ 3800) ∧ bil (t.map (er W)) m (er W r) (er W r) ≠ 0 ∧
  ∀ (v : V) (H' : Hp) (T : List (List (Int × Int))), Same H H' → TabV H' v T → MirT W (t.map (er W)) m (er W r) T → Q v H'
theorem mirBd {m dt et dr er' : Nat} {Dt Dr : Int} {Mt Mr : Nat} (hm : m ≤ 5) (h1 : Dt.natAbs ≤ 2 ^ dt) (h2 : Mt ≤ 2 ^ et) (h3 : Dr.natAbs ≤ 2 ^ dr) (h4 : Mr ≤ 2 ^ er') :
    (m + 1) * (Mt * Mr) ≤ 2 ^ (3 + (et + er')) ∧ (m + 1) * (m * (Mt * Mr) * Mr) ≤ 2 ^ (6 + et + 2 * er') ∧ m * (m * (Mt * Mr) * Mr) ≤ 2 ^ (5 + et + 2 * er') ∧ (m + 1) * (Mt * 1) ≤ 2 ^ (3 + et) ∧ (m + 1) * (m * (Mt * 1) * Mr) ≤ 2 ^ (6 + et + er') ∧ m * (m * (Mt * 1) * Mr) ≤ 2 ^ (5 + et + er') ∧ (Dt * Dr * Dr).natAbs ≤ 2 ^ (dt + 2 * dr) ∧ (Dt * 1 * Dr).natAbs ≤ 2 ^ (dt + dr) := by
  have hm8 := pw_five hm
  have hmm : m * m ≤ 2 ^ 5 := by
    rcases (by omega : m = 0 ∨ m = 1 ∨ m = 2 ∨ m = 3 ∨ m = 4 ∨ m = 5) with rfl | rfl | rfl | rfl | rfl | rfl <;> decide
  have a1 : Mt * Mr ≤ 2 ^ (et + er') := pw_mul h2 h4
  have e1 : m * (m * (Mt * Mr) * Mr) = m * m * (Mt * Mr * Mr) := by ac_rfl
  have e2 : m * (m * (Mt * 1) * Mr) = m * m * (Mt * Mr) := by rw [Nat.mul_one]; ac_rfl
  have a2 : Mt * Mr * Mr ≤ 2 ^ (et + er' + er') := pw_mul a1 h4
  refine ⟨pw_mul hm8.2 a1, ?_, ?_, ?_, ?_, ?_, ?_, ?_⟩
  · exact pw_le (pw_mul hm8.2 (pw_mul (pw_mul hm8.1 a1) h4)) (by omega)
  · rw [e1]
    exact pw_le (pw_mul hmm a2) (by omega)
  · rw [Nat.mul_one]
    exact pw_mul hm8.2 h2
  · rw [Nat.mul_one]
    exact pw_le (pw_mul hm8.2 (pw_mul (pw_mul hm8.1 h2) h4)) (by omega)
  · rw [e2]
    exact pw_le (pw_mul hmm a1) (by omega)
  · exact pw_le (pw_abs (pw_abs h1 h3) h3) (by omega)
  · rw [Int.mul_one]
    exact pw_abs h1 h3

def sp__law_form (K : PySem.W.Frag) : Sp := fun vs H Q _ => ∃ (b : Addr) (g : Int) (m : Nat) (F : Type) (R : Lean.Grind.CommRing F) (W : GV g F), vs = [.ref b, .int g, .int (m : Int)] ∧ Gr g ∧ Bag H b ∧ 1 ≤ m ∧ m ≤ 5 ∧
  ∀ (H' : Hp) (v : V) (T : List (List (Int × Int))), TabV H' v T → FrmT W 2520 16128000000000 m T → Mv b H H' → Bag H' b → Q v H'
theorem tz_oneW {g : Int} (hg : g = 0 ∨ Gr5 g) : TZ g 2520 161280 (1, 1) := by
  have := (TZ.one hg).wide 2520
  rw [show (1 : Int) * 2520 = 2520 from rfl] at this
  exact this.mono (by decide)
theorem tz_lackW {g : Int} (hg : g = 0 ∨ Gr5 g) : TZ g 2520 161280 (minusF g (1, 1)) := (tz_oneW hg).minus hg
theorem lack_ne {g : Int} (hg : g = 0 ∨ Gr5 g) : (minusF g (1, 1)).1 ≠ 0 := fun z => by
  obtain ⟨F', R, ⟨W⟩⟩ := gv_any hg
  have h1 := W.minus hg (tn_one hg)
  rw [W.one] at h1
  have h2 := (e_zero (V := W) hg (tn_minus hg (tn_one hg) (Nat.le_refl 4))).mpr z
  rw [h2] at h1
  exact W.ne (by grind)

def sp__law_with_worth (K : PySem.W.Frag) : Sp := fun vs H Q _ => ∃ (b : Addr) (g : Int) (x : V) (t : List (List (Int × Int))) (m : Nat) (F : Type) (R : Lean.Grind.CommRing F) (W : GV g F), vs = [.ref b, .int g, x] ∧ Gr g ∧ Bag H b ∧ TabV H x t ∧ FrmT W 2520 16128000000000 m t ∧ 1 ≤ m ∧ m ≤ 5 ∧
  ∀ (H' : Hp) (v : V) (r : List (Int × Int)), RowV H' v r → RZ g 2520 161280 m r → bil (t.map (er W)) m (er W r) (er W r) ≠ 0 → Mv b H H' → Bag H' b → Q v H'

def sp_exchanged (K : PySem.W.Frag) : Sp := fun vs H Q _ => ∃ (g : Int) (f tv : V) (L : Addr) (xs : List V) (t rs : List (List (Int × Int))) (u w : List (Int × Int)) (i m : Nat) (Dt Dr : Int) (Mt Mr s a : Nat) (F : Type) (R : Lean.Grind.CommRing F) (W : GV g F), vs = [f, .ref L, .int (i : Int)] ∧ (g = 0 ∨ Gr5 g) ∧ FormV K H f g tv ∧ TabV H tv t ∧ H L = some (.lst xs) ∧ Acc RowV H xs rs rs.length ∧ rs.length ≤ 100 ∧ t.length = m ∧ 1 ≤ m ∧ m ≤ 5 ∧ SymF (t.map (er W)) m ∧ (∀ q ∈ t, RZ g Dt Mt m q) ∧ (∀ r ∈ rs, RZ g Dr Mr m r ∧ bil (t.map (er W)) m (er W r) (er W r) ≠ 0) ∧ rs[i]? = some u ∧ rs[i + 1]? = some w ∧ Dt ≠ 0 ∧ Dr ≠ 0 ∧ Dt.natAbs ≤ 2 ^ s ∧ Mt ≤ 2 ^ s ∧ Dr.natAbs ≤ 2 ^ a ∧ Mr ≤ 2 ^ a ∧ 4 ≤ s ∧ s ≤ 300 ∧ 4 ≤ a ∧ 12 + 2 * a + s ≤ 780 ∧
  ∀ (H' : Hp) (L' : Addr) (ys : List V) (v : List (Int × Int)) (D : Int), Same H H' → H L' = none → H' L' = some (.lst ys) → Acc RowV H' ys (rs.take i ++ [w, v] ++ rs.drop (i + 2)) (rs.take i ++ [w, v] ++ rs.drop (i + 2)).length → RZ g (Dr * D) (m * (Mr * 2 ^ (12 + 2 * a + s))) m v → D ≠ 0 → D.natAbs ≤ 2 ^ (12 + 2 * a + s) → er W v = mirF W (t.map (er W)) m (er W w) (er W u) → Q (.ref L') H'

/-- how many bits a row of mirrors may have -/
def sE (Es : List Nat) : Nat := (Es.map fun e => e + 5).sum
theorem sE_succ {Es : List Nat} {i E : Nat} (h : Es[i]? = some E) : sE (Es.take (i + 1)) = sE (Es.take i) + (E + 5) := by
  unfold sE
  rw [List.take_add_one, h, List.map_append, List.sum_append]
  rfl
theorem sE_le (Es : List Nat) (i : Nat) : sE (Es.take i) ≤ sE Es := by
  have : sE Es = sE (Es.take i) + sE (Es.drop i) := by
    unfold sE
    rw [← List.sum_append, ← List.map_append, List.take_append_drop]
  omega
theorem sE_const {α : Type} (c : Nat) (l : List α) : sE (l.map fun _ => c) = l.length * (c + 5) := by
  unfold sE
  induction l with
  | nil => simp
  | cons a l ih => rw [List.map_cons, List.map_cons, List.sum_cons, ih, List.length_cons, Nat.succ_mul]; omega
def sp__law_made (K : PySem.W.Frag) : Sp := fun vs H Q _ => ∃ (g : Int) (x : V) (L : Addr) (xs : List V) (t rs : List (List (Int × Int))) (Es : List Nat) (m : Nat) (Dt : Int) (Mt dt et : Nat) (F : Type) (R : Lean.Grind.CommRing F) (W : GV g F), vs = [.int g, x, .ref L] ∧ (g = 0 ∨ Gr5 g) ∧ TabV H x t ∧ H L = some (.lst xs) ∧ Acc RowV H xs rs rs.length ∧ 1 ≤ m ∧ m ≤ 5 ∧ t.length = m ∧ (∀ q ∈ t, RZ g Dt Mt m q) ∧ Dt ≠ 0 ∧ Dt.natAbs ≤ 2 ^ dt ∧ Mt ≤ 2 ^ et ∧ Es.length = rs.length ∧ (∀ (i : Nat) (r : List (Int × Int)) (E : Nat), rs[i]? = some r → Es[i]? = some E → MirS W t m dt et r E) ∧ sE Es ≤ 3800 ∧
  ∀ (v : V) (H' : Hp) (T : List (List (Int × Int))) (D : Int) (M : Nat), Same H H' → TabV H' v T → T.length = m → D ≠ 0 → D.natAbs ≤ 2 ^ sE Es → M ≤ 2 ^ sE Es → (∀ q ∈ T, RZ g D M m q) → (∀ (i : Nat), i < m → (T.map (er W)).getD i zr = mirsF W (t.map (er W)) m (rs.map (er W)) (unit i)) → Q v H'

def sp__law_mirrors (K : PySem.W.Frag) : Sp := fun vs H Q _ => ∃ (b : Addr) (g : Int) (x : V) (t : List (List (Int × Int))) (m most : Nat) (F : Type) (R : Lean.Grind.CommRing F) (W : GV g F), vs = [.ref b, .int g, x, .int (most : Int)] ∧ Gr g ∧ Bag H b ∧ TabV H x t ∧ FrmT W 2520 16128000000000 m t ∧ 1 ≤ m ∧ m ≤ 5 ∧ most ≤ 16 ∧
  ∀ (H' : Hp) (L : Addr) (xs : List V) (rs : List (List (Int × Int))), H' L = some (.lst xs) → Acc RowV H' xs rs rs.length → rs.length ≤ most → (∀ r ∈ rs, RZ g 2520 161280 m r ∧ bil (t.map (er W)) m (er W r) (er W r) ≠ 0) → H L = none → Mv b H H' → Bag H' b → Q (.ref L) H'

theorem sE_app (a b : List Nat) : sE (a ++ b) = sE a + sE b := by
  unfold sE
  rw [List.map_append, List.sum_append]
theorem sE_rep (n c : Nat) : sE (List.replicate n c) = n * (c + 5) := by
  have := sE_const c (List.replicate n ())
  rw [List.map_replicate, List.length_replicate] at this
  exact this
/-- rows of the law's mirrors -/
def RwS {g : Int} {F : Type} [Lean.Grind.CommRing F] (W : GV g F) (t : List (List (Int × Int))) (m : Nat) (D : Int) (M : Nat) (r : List (Int × Int)) : Prop := RZ g D M m r ∧ bil (t.map (er W)) m (er W r) (er W r) ≠ 0
def sp__law_is_exchanged (K : PySem.W.Frag) : Sp := fun vs H Q _ => ∃ (f tv : V) (g : Int) (L : Addr) (xs : List V) (t rs : List (List (Int × Int))) (i m : Nat) (D1 : Int) (M1 : Nat) (F : Type) (R : Lean.Grind.CommRing F) (W : GV g F), vs = [f, .int g, tv, .ref L, .int (i : Int)] ∧ (g = 0 ∨ Gr5 g) ∧ FormV K H f g tv ∧ TabV H tv t ∧ FrmT W 2520 16128000000000 m t ∧ 1 ≤ m ∧ m ≤ 5 ∧ H L = some (.lst xs) ∧ Acc RowV H xs rs rs.length ∧ rs.length ≤ 16 ∧ (∀ r ∈ rs, RwS W t m D1 M1 r) ∧ D1 ≠ 0 ∧ D1.natAbs ≤ 2 ^ 24 ∧ M1 ≤ 2 ^ 36 ∧ i + 1 < rs.length ∧ ∀ H', Same H H' → Q (.bl true) H'

theorem rep8 {α : Type} {P : Hp → V → α → Prop} {H : Hp} {xs : List V} {as : List α} (h : Acc P H xs as as.length) : ∀ n : Nat, Acc P H (List.replicate n xs).flatten (List.replicate n as).flatten (List.replicate n as).flatten.length
  | 0 => Acc.nil
  | n + 1 => by
    rw [List.replicate_succ, List.replicate_succ, List.flatten_cons, List.flatten_cons]
    exact acc_cat h (rep8 h n)
theorem rep_len {α : Type} (as : List α) : ∀ n : Nat, (List.replicate n as).flatten.length = n * as.length
  | 0 => by simp
  | n + 1 => by
    rw [List.replicate_succ, List.flatten_cons, List.length_append, rep_len as n, Nat.succ_mul]
    omega
theorem rep_mem {α : Type} {as : List α} {a : α} {n : Nat} (h : a ∈ (List.replicate n as).flatten) : a ∈ as := by
  obtain ⟨l, h1, h2⟩ := List.mem_flatten.mp h
  rw [List.eq_of_mem_replicate h1] at h2
  exact h2
/-- a list of the law's rows of mirrors -/
def RLs {g : Int} {F : Type} [Lean.Grind.CommRing F] (W : GV g F) (t : List (List (Int × Int))) (m : Nat) (D : Int) (M : Nat) (H : Hp) (L : Addr) (rs : List (List (Int × Int))) : Prop := ∃ xs, H L = some (.lst xs) ∧ Acc RowV H xs rs rs.length ∧ 2 ≤ rs.length ∧ rs.length ≤ 16 ∧ ∀ r ∈ rs, RwS W t m D M r
theorem RLs.mv {g : Int} {F : Type} [Lean.Grind.CommRing F] {W : GV g F} {t rs : List (List (Int × Int))} {m M : Nat} {D : Int} {H H' : Hp} {L b : Addr} (h : RLs W t m D M H L rs) (n : L ≠ b) (hb : Bag H b) (mv : Mv b H H') : RLs W t m D M H' L rs := by
  obtain ⟨xs, h1, h2, h3, h4, h5⟩ := h
  exact ⟨xs, mv _ _ n h1, h2.mono fun x a h => RowV.kt h (mv.kt hb), h3, h4, h5⟩
def dB : Int := 2520 * 2520
def mB : Nat := 161280 * 161280
def sp_law (K : PySem.W.Frag) : Sp := fun vs H Q _ => ∃ (a : Addr) (ns : List Int), vs = [.ref a] ∧ SqL K H a (ns.map V.int) ∧ ∀ H', Q (.bl true) H'

theorem ok_is_whole {f : Addr} {fd : FuncData} (F : FnP K "is_whole" s_is_whole f fd) (m_isinstance : mg "isinstance" = none) (m_int : mg "int" = none) (m_bool : mg "bool" = none) :
    FnOk P w K mg base CX0 1 f fd ["thing"] (sp_is_whole K) := by
  refine F.ok sc_is_whole (fun vs H Q E h => ?_) (fun cdv A outer s H vs Q E hr h => ?_)
  · obtain ⟨v, rfl, hv, q⟩ := h
    rfl
  · obtain ⟨v, rfl, hv, q⟩ := h
    refine ⟨_, PSs.nox (pss_one (ps_ret (pe_and (pe_callB call_isi (by rfl) m_isinstance (by decide +kernel) (pa_cons (pv 0) (pa_cons (pe_bltn (v := .ty "int") (by rfl) m_int (by decide +kernel) rfl) pa_nil))) (pe_one (pe_not (pe_callB call_isi (by rfl) m_isinstance (by decide +kernel) (pa_cons (pv 0) (pa_cons (pe_bltn (v := .ty "bool") (by rfl) m_bool (by decide +kernel) rfl) pa_nil)))))))), ?_⟩
    have e := whole_eq v
    walk_at "go"
    refine tv_int hv ?_
    walk_at "go"
    refine w_iteB (fun hi => ?_) (fun hi => ?_)
    · walk_at "go"
      refine tv_bool hv ?_
      walk_at "go"
      rw [e, hi] at q
      exact q
    · rw [e, hi] at q
      exact q
theorem ok_common_divisor {f : Addr} {fd : FuncData} (F : FnP K "common_divisor" s_common_divisor f fd) (m_abs : mg "abs" = none) :
    FnOk P w K mg base CX0 1 f fd ["a", "b"] (sp_common_divisor K) := by
  refine F.ok sc_common_divisor (fun vs H Q E h => ?_) (fun cdv A outer s H vs Q E hr h => ?_)
  · obtain ⟨a, c, rfl, q⟩ := h
    rfl
  · obtain ⟨a, c, rfl, q⟩ := h
    refine ⟨_, PSs.nox (pss_cons (ps_while PassesOwn.never (pt_cmpR op_ne (pv 1) pe_int (nomark _)) (pss_one (ps_par (i := 0) (j := 1) (by rfl) sc_common_divisor.nd rfl rfl (by decide) rfl rfl (pa_cons (pv 1) (pa_cons (pe_op op_modN (pv 0) (pv 1)) pa_nil)) (by rfl))))
        (pss_one (ps_ret (pe_callB call_abs (by rfl) m_abs (by decide +kernel) (pa_cons (pv 0) pa_nil))))), ?_⟩
    walk_at "go"
    refine while_by (fun σ H' => ∃ x y : Int, σ = [some (.int x), some (.int y)] ∧ Int.gcd x y = Int.gcd a c ∧ H' = H) (fun σ _ => match σ with | [_, some (.int y)] => y.natAbs | _ => 0) ⟨a, c, rfl, rfl, rfl⟩ (fun σ H' hP => ?_) (fun σ H' Q1 Q2 f h => ?_)
    · obtain ⟨x, y, rfl, e, rfl⟩ := hP
      walk_at "go"
      refine w_iteN (fun hc => ?_) (fun hc => ?_)
      · walk_at "go"
        refine w_I hc ?_
        walk_at "go"
        exact ⟨⟨y, x.fmod y, rfl, by rw [gcd_fmod]; exact e, rfl⟩, fmod_small x hc⟩
      · walk_at "go"
        subst hc
        rw [Int.gcd_zero_right] at e
        rw [← e] at q
        have e2 : (if x < 0 then -x else x) = ((x.natAbs : Nat) : Int) := by split <;> omega
        rw [e2]
        exact q
    · obtain ⟨v, hv, e1, k, ek, qq⟩ := h
      exact ⟨v, hv, e1, k, ek, f _ _ qq⟩
theorem ok_is_nought_on {f : Addr} {fd : FuncData} (F : FnP K "is_nought_on" s_is_nought_on f fd) :
    FnOk P w K mg base CX0 1 f fd ["ground", "whole"] (sp_is_nought_on K) := by
  refine F.ok sc_is_nought_on (fun vs H Q E h => ?_) (fun cdv A outer s H vs Q E hr h => ?_)
  · obtain ⟨g, d, rfl, hg, q⟩ := h
    rfl
  · obtain ⟨g, d, rfl, hg, q⟩ := h
    refine ⟨_, PSs.nox (pss_cons (ps_if (pt_cmpR op_eq (pv 0) pe_int (nomark _)) (pss_one (ps_ret (pe_cmpR op_eq (pv 1) pe_int (nomark _)))) pss_nil)
        (pss_one (ps_ret (pe_cmpR op_eq (pe_op op_modN (pv 1) (pv 0)) pe_int (nomark _))))), ?_⟩
    walk_at "go"
    refine w_ite (fun hc => ?_) (fun hc => ?_)
    · walk_at "go"
      unfold nghtOn at q
      rw [if_pos hc] at q
      exact q
    · have g0 : 0 < g := by unfold Gr5 at hg; omega
      walk_at "go"
      refine w_I (by omega) ?_
      walk_at "go"
      unfold nghtOn at q
      rw [if_neg hc] at q
      exact q
theorem ok_wheel_back {f : Addr} {fd : FuncData} (F : FnP K "wheel_back" s_wheel_back f fd) :
    FnOk P w K mg base CX0 1 f fd ["wheel", "whole"] (sp_wheel_back K) := by
  refine F.ok sc_wheel_back (fun vs H Q E h => ?_) (fun cdv A outer s H vs Q E hr h => ?_)
  · obtain ⟨g, w, k, rfl, hg, hk1, hk, hw, q⟩ := h
    rfl
  · obtain ⟨g, w, k, rfl, hg, hk1, hk, hw, q⟩ := h
    refine ⟨_, PSs.nox (pss_cons (ps_set (i := 2) sc_wheel_back.nd rfl (.inl rfl) pe_int)
        (pss_cons (ps_while PassesOwn.never (pt_cmpR op_ne (pe_op op_modN (pe_op op_mul (pv 2) (pv 1)) (pv 0)) pe_int (nomark _)) (pss_one (ps_aug (i := 2) sc_wheel_back.nd rfl (.inl rfl) pe_int ip_add)))
        (pss_one (ps_ret (pv 2))))), ?_⟩
    walk_at "go"
    refine while_by (fun σ H' => ∃ f : Int, σ = [some (.int g), some (.int w), some (.int f)] ∧ 1 ≤ f ∧ f ≤ k ∧ H' = H) (fun σ _ => match σ with | [_, _, some (.int f)] => (k - f).toNat | _ => 0) ⟨1, rfl, by decide, hk1, rfl⟩ (fun σ H' hP => ?_) (fun σ H' Q1 Q2 f h => ?_)
    · obtain ⟨f, rfl, hf1, hf, rfl⟩ := hP
      walk_at "go"
      refine w_I (.inl ⟨by omega, by omega⟩) ?_
      walk_at "go"
      refine w_I (by omega) ?_
      walk_at "go"
      refine w_iteN (fun hc => ?_) (fun hc => ?_)
      · have hne : f ≠ k := fun e => hc (by rw [e]; exact hw)
        refine w_aug rfl ?_
        walk_at "go"
        refine ⟨f, 1, rfl, rfl, ⟨f + 1, rfl, by omega, by omega, rfl⟩, ?_⟩
        show (k - (f + 1)).toNat < (k - f).toNat
        omega
      · walk_at "go"
        exact q f hf1 (by omega) hc
    · obtain ⟨v1, h1, v2, h2, i, j, e1, e2, c1, v3, h3, i2, j2, e3, e4, c2, sc, b, eb, qq⟩ := h
      exact ⟨v1, h1, v2, h2, i, j, e1, e2, c1, v3, h3, i2, j2, e3, e4, c2, sc, b, eb, f _ _ qq⟩
theorem ok_dot {f : Addr} {fd : FuncData} (F : FnP K "dot" s_dot f fd) (m_sum : mg "sum" = none) (m_zip : mg "zip" = none) :
    FnOk P w K mg base CX0 1 f fd ["wholes", "others"] (sp_dot K) := by
  refine F.ok sc_dot (fun vs H Q E h => ?_) (fun cdv A outer s H vs Q E hr h => ?_)
  · obtain ⟨a, b, ts, ss, rfl, ha, hb, hl, hl2, ht, hs, q⟩ := h
    rfl
  · obtain ⟨a, b, ts, ss, rfl, ha, hb, hl, hl2, ht, hs, q⟩ := h
    refine ⟨_, PSs.nox (pss_one (ps_ret (pe_callB (cr_sum rfl) (by rfl) m_sum (by decide +kernel) (pa_cons (pe_lc (own := [("whole", 2), ("other", 3)]) (g := gTup K 2 (gCons (gName 2) (gCons (gName 3) (gNil)))) (tt := tYes) (by rfl) sc_dot.nd (RZ.pi_zipA (by rfl) m_zip (pa_cons (pv 0) (pa_cons (pv 1) pa_nil))) (blkOk_by (own := [("whole", 2), ("other", 3)]) (N := ["wholes", "others", "whole", "other"]) (sc := defScope s_dot) (by decide +kernel)) (fun _ _ _ _ _ => (pg_tup rfl (pgs_cons (pg_name (i := 2) sc_dot.nd rfl (.inl rfl)) (pgs_cons (pg_name (i := 3) sc_dot.nd rfl (.inl rfl)) pgs_nil)))) (fun _ _ _ _ _ => pts_nil) (fun _ _ _ _ _ => (pe_op op_mulW (pv 2) (pv 3)))) pa_nil)))), ?_⟩
    walk_at "go"
    refine ⟨a, b, _, _, rfl, .inl ⟨SqL.of ha, SqL.of hb, fun D hD => ?_⟩⟩
    refine lc_it (walk_zip (xs := ts.map V.int) (ys := ss.map V.int) (n := ts.length) (by rw [List.length_map, List.length_map]; omega)) (fun i H' => Same H H' ∧ H' D = some (.lst (((List.zipWith (fun a b => a * b) ts ss).take i).map V.int))) ⟨Same.updD (Same.refl H) hD, upd_same⟩ (fun i H' _ hP => ⟨SqL.of (hP.1 _ _ ha), SqL.of (hP.1 _ _ hb)⟩) (fun i v H1 H2 hi hP hY => ?_) (fun H' hP => ?_)
    · obtain ⟨sm, hD'⟩ := hP
      obtain ⟨T, u, v', rfl, hT, rfl, hu, hv⟩ := hY
      have g1 : (ts.map V.int)[i]? = some (.int ts[i]) := by rw [List.getElem?_map, List.getElem?_eq_getElem hi]; rfl
      have g2 : (ss.map V.int)[i]? = some (.int (ss[i]'(by omega))) := by rw [List.getElem?_map, List.getElem?_eq_getElem (by omega)]; rfl
      cases Option.some.inj (hu.symm.trans g1)
      cases Option.some.inj (hv.symm.trans g2)
      have s2 := same_upd (o := .tup [V.int ts[i], V.int (ss[i]'(by omega))]) hT
      have hTT : (upd H1 T (.tup [V.int ts[i], V.int (ss[i]'(by omega))])) T = some (.tup [V.int ts[i], V.int (ss[i]'(by omega))]) := upd_same
      generalize upd H1 T (.tup [V.int ts[i], V.int (ss[i]'(by omega))]) = H2 at s2 hTT ⊢
      walk_at "go"
      refine ⟨rfl, ?_⟩
      walk_at "go"
      refine w_I (mulW_le (ht _ (List.getElem_mem hi)) (hs _ (List.getElem_mem (by omega))) (by decide)) ?_
      refine ⟨_, s2 _ _ hD', ?_, Same.updD (sm.trans s2) hD, ?_⟩
      · rw [List.length_map, List.length_take]
        exact small1000 (by omega)
      · have gz : (List.zipWith (fun a b => a * b) ts ss)[i]? = some (ts[i] * ss[i]'(by omega)) := by
          rw [List.getElem?_zipWith, List.getElem?_eq_getElem hi, List.getElem?_eq_getElem (by omega)]
        rw [upd_same, List.take_add_one, gz, List.map_append]
        rfl
    · obtain ⟨sm, hD'⟩ := hP
      have e : (List.zipWith (fun a b => a * b) ts ss).take ts.length = List.zipWith (fun a b => a * b) ts ss := List.take_of_length_le (by rw [List.length_zipWith]; omega)
      rw [e] at hD'
      walk_at "go"
      exact ⟨D, _, rfl, SqL.of hD', q _ sm⟩
theorem ok_turned {f : Addr} {fd : FuncData} (F : FnP K "turned" s_turned f fd) (m_tuple : mg "tuple" = none) (m_range : mg "range" = none) (m_len : mg "len" = none) :
    FnOk P w K mg base CX0 1 f fd ["table"] (sp_turned K) := by
  refine F.ok sc_turned (fun vs H Q E h => ?_) (fun cdv A outer s H vs Q E hr h => ?_)
  · obtain ⟨v, t, l, rfl, hv, ht0, ht, hl, hl10, q⟩ := h
    rfl
  · obtain ⟨v, t, l, rfl, hv, ht0, ht, hl, hl10, q⟩ := h
    refine ⟨_, PSs.nox (pss_one (ps_ret (pe_callTy call_tuple_of (by rfl) m_tuple (by decide +kernel) (pa_cons (pe_lc (own := [("at", 1)]) (g := gName 1) (tt := tYes) (by rfl) sc_turned.nd (pi_range1 (by rfl) m_range (pa_cons (pe_callB call_len_seq (by rfl) m_len (by decide +kernel) (pa_cons (pe_ix ix_tup (pv 0) pe_int (fun _ _ => rfl)) pa_nil)) pa_nil)) (blkOk_by (own := [("at", 1)]) (N := ["table", "at", "row"]) (sc := defScope s_turned) (by decide +kernel)) (fun _ _ _ _ _ => (pg_name (i := 1) sc_turned.nd rfl (.inr rfl))) (fun _ _ _ _ _ => pts_nil) (fun _ _ _ _ _ => (pe_callTy (r := rTupOf K) call_tupOf (by rfl) m_tuple (by decide +kernel) (pa_cons (pe_lc (own := [("row", 2)]) (g := gName 2) (tt := tYes) (wi := iTup K (tVar 0)) (by rfl) sc_turned.nd (pi_tup (pv 0)) (blkOk_by (own := [("row", 2)]) (N := ["table", "at", "row"]) (sc := ({ kind := PySem.ScopeKind.function, names := [ (PySem.Str.ofString ".0", PySem.NameKind.local), (PySem.Str.ofString "at", PySem.NameKind.cell), (PySem.Str.ofString "tuple", PySem.NameKind.globalImplicit), (PySem.Str.ofString "table", PySem.NameKind.cell)], isGenerator := false, isCoroutine := false, more := [] } : Scope)) (by decide +kernel)) (fun _ _ _ _ _ => (pg_name (i := 2) sc_turned.nd rfl (.inl rfl))) (fun _ _ _ _ _ => pts_nil) (fun _ _ _ _ _ => (pe_ix (r := rIxT K) ix_tup (pv 2) (pv 1) (fun _ _ => rfl)))) pa_nil)))) pa_nil)))), ?_⟩
    obtain ⟨p, xs, rfl, hp, hlx, hx⟩ := hv
    obtain ⟨x0, hx0⟩ : ∃ x0, xs[0]? = some x0 := ⟨_, List.getElem?_eq_getElem (by omega)⟩
    have ht00 : t[0]? = some t[0] := List.getElem?_eq_getElem ht0
    obtain ⟨p0, ns0, rfl, hp0, hl0, hn0⟩ := hx 0 x0 _ hx0 ht00
    have hl0' : ns0.length = l := by rw [hl0]; exact hl _ (List.getElem_mem ht0)
    walk_at "go"
    refine w_ixT hp (atI_nat (j := 0) hx0) ?_
    walk_at "go"
    refine ⟨p0, ns0, rfl, .inr (SqT.of hp0), ?_⟩
    walk_at "go"
    refine ⟨by omega, by omega, fun D hD => ?_⟩
    rw [hl0']
    refine lc_range (fun j H' => Same H H' ∧ ∃ ys, H' D = some (.lst ys) ∧ Acc RowV H' ys (turnF l t) j) ⟨Same.updD (Same.refl H) hD, [], upd_same, Acc.nil⟩ (fun j H' hj hP => ?_) (fun H' hP => ?_)
    · obtain ⟨sm, ys, hD', hacc⟩ := hP
      have hj' : j < l := hj
      have hp' := sm _ _ hp
      walk_at "go"
      refine ⟨rfl, ?_⟩
      walk_at "go"
      refine ⟨p, rfl, ⟨xs, SqT.of hp'⟩, fun D2 hD2 => ?_⟩
      have nD : D ≠ D2 := fresh_of hD' hD2
      refine lc_tup (xs := xs) (fun i H'' => Same H' H'' ∧ ∃ zs, H'' D2 = some (.lst zs) ∧ Acc NumV H'' zs (t.map fun row => row.getD j (0, 1)) i) ⟨Same.updD (Same.refl H') hD2, [], upd_same, Acc.nil⟩ (fun i H'' _ hP => SqT.of (hP.1 _ _ hp')) (fun i x H'' hxi hP => ?_) (fun H'' hP => ?_)
      · obtain ⟨sm2, zs, hD2', hacc2⟩ := hP
        have hi : i < t.length := by
          have := (List.getElem?_eq_some_iff.mp hxi).1
          omega
        have hti : t[i]? = some t[i] := List.getElem?_eq_getElem hi
        obtain ⟨pr, ns, rfl, hpr, hln, hns⟩ := hx i x _ hxi hti
        have hlr := hl _ (List.getElem_mem hi)
        obtain ⟨y, hy⟩ : ∃ y, ns[j]? = some y := ⟨_, List.getElem?_eq_getElem (by omega)⟩
        have htj : t[i][j]? = some (t[i].getD j (0, 1)) := by
          rw [List.getD_eq_getElem?_getD, List.getElem?_eq_getElem (by omega)]
          rfl
        have hn := hns j y _ hy htj
        have hpr' := sm2 _ _ (sm _ _ hpr)
        walk_at "go"
        refine ⟨rfl, ?_⟩
        walk_at "go"
        rw [Int.zero_add]
        refine w_ixT hpr' (atI_nat hy) ?_
        have kt : Kt H'' (upd H'' D2 (.lst (zs ++ [y]))) := Kt.updL hD2'
        refine ⟨zs, hD2', small1000 (by rw [hacc2.1]; omega), Same.updD sm2 hD2, _, upd_same, ?_⟩
        exact (hacc2.mono fun x a h => NumV.kt h kt).snoc (a := t[i].getD j (0, 1)) (by rw [List.getElem?_map, hti]; rfl) ((hn.kt (Kt.of (sm.trans sm2))).kt kt)
      · obtain ⟨sm2, zs, hD2', hacc2⟩ := hP
        walk_at "go"
        refine w_tupOf2 hD2' ?_
        refine w_newO fun q3 H3 hq3 s3 h3 => ?_
        have hD3 := s3 _ _ (sm2 _ _ hD')
        have kt : Kt H' (upd H3 D (.lst (ys ++ [V.ref q3]))) := (Kt.of (sm2.trans s3)).trans (Kt.updL hD3)
        refine ⟨ys, hD3, small1000 (by rw [hacc.1]; omega), Same.updD ((sm.trans sm2).trans s3) hD, _, upd_same, ?_⟩
        have hrow : RowV H3 (.ref q3) (t.map fun row => row.getD j (0, 1)) := (hacc2.mono fun x a h => NumV.kt h (Kt.of s3)).sq (by rw [List.length_map]; exact hlx) h3
        exact (hacc.mono fun x a h => RowV.kt h kt).snoc (turn_at hj') (RowV.kt hrow (Kt.updL hD3))
    · obtain ⟨sm, ys, hD', hacc⟩ := hP
      walk_at "go"
      refine ⟨_, _, rfl, .inl ⟨SqL.of hD', fun m hm => ?_⟩⟩
      exact q _ _ (sm.trans (same_upd hm)) ((hacc.mono fun x a h => RowV.kt h (Kt.of (same_upd hm))).sq (by unfold turnF; rw [List.length_map, List.length_range]; rfl) upd_same)
theorem ok_smaller_row {f : Addr} {fd : FuncData} (F : FnP K "smaller_row" s_smaller_row f fd) (m_range : mg "range" = none) (m_len : mg "len" = none) :
    FnOk P w K mg base CX0 1 f fd ["row", "head", "last"] (sp_smaller_row K) := by
  refine F.ok sc_smaller_row (fun vs H Q E h => ?_) (fun cdv A outer s H vs Q E hr h => ?_)
  · obtain ⟨vr, vh, r, h, last, b, rfl, hvr, hvh, hlh, hl0, hl, hbr, hbh, hln, hlb, hb0, hb, q⟩ := h
    rfl
  · obtain ⟨vr, vh, r, h, last, b, rfl, hvr, hvh, hlh, hl0, hl, hbr, hbh, hln, hlb, hb0, hb, q⟩ := h
    refine ⟨_, PSs.nox (pss_one (ps_ret (pe_lc (own := [("at", 3)]) (g := gName 3) (tt := tYes) (by rfl) sc_smaller_row.nd (pi_range2 (by rfl) m_range (pa_cons pe_int (pa_cons (pe_callB call_len_seq (by rfl) m_len (by decide +kernel) (pa_cons (pv 0) pa_nil)) pa_nil))) (blkOk_by (own := [("at", 3)]) (N := ["row", "head", "last", "at"]) (sc := defScope s_smaller_row) (by decide +kernel)) (fun _ _ _ _ _ => (pg_name (i := 3) sc_smaller_row.nd rfl (.inl rfl))) (fun _ _ _ _ _ => pts_nil) (fun _ _ _ _ _ => (pe_op op_fdivZ (pe_op op_sub (pe_op op_mulW (pe_ix (r := rIxL K) ix_list (pv 0) (pv 3) (fun _ _ => rfl)) (pe_ix (r := rIxL K) ix_list (pv 1) pe_int (fun _ _ => rfl))) (pe_op op_mulW (pe_ix (r := rIxL K) ix_list (pv 0) pe_int (fun _ _ => rfl)) (pe_ix (r := rIxL K) ix_list (pv 1) (pv 3) (fun _ _ => rfl)))) (pv 2)))))), ?_⟩
    obtain ⟨pr, rfl, hpr⟩ := hvr
    obtain ⟨ph, rfl, hph⟩ := hvh
    walk_at "go"
    refine ⟨pr, _, rfl, .inl (SqL.of hpr), ?_⟩
    rw [List.length_map]
    walk_at "go"
    refine ⟨⟨by omega, by omega, by omega, by omega⟩, fun D hD => ?_⟩
    refine lc_range (fun i H' => Same H H' ∧ H' D = some (.lst (((smF last h r).take i).map V.int))) ⟨Same.updD (Same.refl H) hD, upd_same⟩ (fun i H' hi hP => ?_) (fun H' hP => ?_)
    · obtain ⟨sm, hD'⟩ := hP
      have hi' : i + 1 < r.length := by omega
      have gi : atI (r.map V.int) (1 + (i : Int)) = some (.int (gt r (i + 1))) := by
        have := gt_int (r := r) (j := i + 1) hi'
        rw [show ((i + 1 : Nat) : Int) = 1 + (i : Int) by omega] at this
        exact this
      have gh : atI (h.map V.int) (1 + (i : Int)) = some (.int (gt h (i + 1))) := by
        have := gt_int (r := h) (j := i + 1) (by omega)
        rw [show ((i + 1 : Nat) : Int) = 1 + (i : Int) by omega] at this
        exact this
      have g0 := gt_int (r := r) (j := 0) (by omega)
      have h0 := gt_int (r := h) (j := 0) (by omega)
      have hpr' := sm _ _ hpr
      have hph' := sm _ _ hph
      walk_at "go"
      refine ⟨rfl, ?_⟩
      walk_at "go"
      refine w_ixL hpr' gi ?_
      walk_at "go"
      refine w_ixL hph' h0 ?_
      refine w_I (wide_mul (hbr _) (hbh _) hb0 hb0 (by omega)) ?_
      walk_at "go"
      refine w_ixL hpr' g0 ?_
      walk_at "go"
      refine w_ixL hph' gh ?_
      refine w_I (wide_mul (hbr _) (hbh _) hb0 hb0 (by omega)) ?_
      walk_at "go"
      refine w_I (divZ_of hln hlb hb0 (by omega)) ?_
      refine ⟨_, hD', ?_, Same.updD sm hD, ?_⟩
      · rw [List.length_map, List.length_take]
        exact small1000 (by omega)
      · have gz : (smF last h r)[i]? = some ((gt r (i + 1) * gt h 0 - gt r 0 * gt h (i + 1)).fdiv last) := by
          unfold smF
          rw [List.getElem?_map, List.getElem?_range (by omega)]
          rfl
        rw [upd_same, List.take_add_one, gz, List.map_append]
        rfl
    · obtain ⟨sm, hD'⟩ := hP
      rw [List.take_of_length_le (by unfold smF; rw [List.length_map, List.length_range]; omega)] at hD'
      walk_at "go"
      exact q D H' sm hD' hD
theorem ok_head_place {f : Addr} {fd : FuncData} (F : FnP K "head_place" s_head_place f fd) (m_range : mg "range" = none) (m_len : mg "len" = none) :
    FnOk P w K mg base CX0 1 f fd ["rows", "begin", "at"] (sp_head_place K) := by
  refine F.ok sc_head_place (fun vs H Q E h => ?_) (fun cdv A outer s H vs Q E hr h => ?_)
  · obtain ⟨v, rows, b, a, rfl, hv, ha, hl, hbl, q1, q2⟩ := h
    rfl
  · obtain ⟨v, rows, b, a, rfl, hv, ha, hl, hbl, q1, q2⟩ := h
    refine ⟨_, PSs.nox (pss_cons (ps_for PassesOwn.never rfl (pi_range2 (by rfl) m_range (pa_cons (pv 1) (pa_cons (pe_callB call_len_seq (by rfl) m_len (by decide +kernel) (pa_cons (pv 0) pa_nil)) pa_nil))) (pg_name (i := 3) sc_head_place.nd rfl (.inl rfl)) (pss_one (ps_if (pt_cmpR op_ne (pe_ix ix_list (pe_ix ix_list (pv 0) (pv 3) (fun _ _ => rfl)) (pv 2) (fun _ _ => rfl)) pe_int (nomark _)) (pss_one (ps_ret (pv 3))) pss_nil)))
        (pss_one (ps_ret pe_non))), ?_⟩
    obtain ⟨p, xs, rfl, hp, hacc⟩ := hv
    have hlx : xs.length = rows.length := hacc.1
    walk_at "go"
    refine ⟨p, xs, rfl, .inl (SqL.of hp), ?_⟩
    walk_at "go"
    refine ⟨⟨by omega, by omega, by omega, by omega⟩, ?_⟩
    refine for_range (fun i σ H' => H' = H ∧ (∃ y, σ = [some (.ref p), some (.int (b : Int)), some (.int (a : Int)), y]) ∧ ∀ (j : Nat) (r : List Int), b ≤ j → j < b + i → rows[j]? = some r → gt r a = 0) ⟨rfl, ⟨_, rfl⟩, fun j r h1 h2 => absurd h2 (by omega)⟩ (fun i σ H' hi hP => ?_) (fun σ H' hP => ?_)
    · obtain ⟨rfl, ⟨y, rfl⟩, hz⟩ := hP
      have hbi : b + i < rows.length := by omega
      have hri : rows[b + i]? = some rows[b + i] := List.getElem?_eq_getElem hbi
      have hxi : xs[b + i]? = some (xs[b + i]'(by omega)) := List.getElem?_eq_getElem _
      obtain ⟨pr, e1, hpr⟩ := hacc.2 _ _ _ hxi hri
      walk_at "go"
      have e2 : atI xs ((b : Int) + (i : Int)) = some (.ref pr) := by
        have := atI_nat hxi
        rw [e1, show ((b + i : Nat) : Int) = (b : Int) + (i : Int) by omega] at this
        exact this
      refine w_ixL hp e2 ?_
      walk_at "go"
      refine w_ixL hpr (gt_int (ha _ (List.getElem_mem hbi))) ?_
      walk_at "go"
      refine w_iteN (fun hc => ?_) (fun hc => ?_)
      · walk_at "go"
        have := q2 (b + i) _ (by omega) hri hc
        rw [show ((b + i : Nat) : Int) = (b : Int) + (i : Int) by omega] at this
        exact this
      · walk_at "go"
        refine ⟨rfl, ⟨_, rfl⟩, fun j r h1 h2 h3 => ?_⟩
        by_cases e : j = b + i
        · subst e
          rw [hri] at h3
          cases h3
          exact hc
        · exact hz j r h1 (by omega) h3
    · obtain ⟨rfl, ⟨y, rfl⟩, hz⟩ := hP
      walk_at "go"
      refine q1 fun i r h1 h2 => hz i r h1 ?_ h2
      have := (List.getElem?_eq_some_iff.mp h2).1
      omega
theorem ok_table_of_ones {f : Addr} {fd : FuncData} (F : FnP K "table_of_ones" s_table_of_ones f fd) (m_tuple : mg "tuple" = none) (m_range : mg "range" = none) :
    FnOk P w K mg base CX0 1 f fd ["many"] (sp_table_of_ones K) := by
  refine F.ok sc_table_of_ones (fun vs H Q E h => ?_) (fun cdv A outer s H vs Q E hr h => ?_)
  · obtain ⟨m, rfl, hm, q⟩ := h
    rfl
  · obtain ⟨m, rfl, hm, q⟩ := h
    refine ⟨_, PSs.nox (pss_one (ps_ret (pe_callTy call_tuple_of (by rfl) m_tuple (by decide +kernel) (pa_cons (pe_lc (own := [("place", 1)]) (g := gName 1) (tt := tYes) (by rfl) sc_table_of_ones.nd (pi_range1 (by rfl) m_range (pa_cons (pv 0) pa_nil)) (blkOk_by (own := [("place", 1)]) (N := ["many", "place", "at"]) (sc := defScope s_table_of_ones) (by decide +kernel)) (fun _ _ _ _ _ => (pg_name (i := 1) sc_table_of_ones.nd rfl (.inr rfl))) (fun _ _ _ _ _ => pts_nil) (fun _ _ _ _ _ => (pe_callTy (r := rTupOf K) call_tupOf (by rfl) m_tuple (by decide +kernel) (pa_cons (pe_lc (own := [("at", 2)]) (g := gName 2) (tt := tYes) (wi := iRng1 (tCons (tVar 0) tNil)) (by rfl) sc_table_of_ones.nd (pi_range1 (by rfl) m_range (pa_cons (pv 0) pa_nil)) (blkOk_by (own := [("at", 2)]) (N := ["many", "place", "at"]) (sc := ({ kind := PySem.ScopeKind.function, names := [ (PySem.Str.ofString ".0", PySem.NameKind.local), (PySem.Str.ofString "place", PySem.NameKind.cell), (PySem.Str.ofString "tuple", PySem.NameKind.globalImplicit), (PySem.Str.ofString "range", PySem.NameKind.globalImplicit), (PySem.Str.ofString "many", PySem.NameKind.cell)], isGenerator := false, isCoroutine := false, more := [] } : Scope)) (by decide +kernel)) (fun _ _ _ _ _ => (pg_name (i := 2) sc_table_of_ones.nd rfl (.inl rfl))) (fun _ _ _ _ _ => pts_nil) (fun _ _ _ _ _ => (pe_ifExp (pt_cmpR op_eq (pv 2) (pv 1) (nomark _)) (pe_tup (pa_cons pe_int (pa_cons pe_int pa_nil))) (pe_tup (pa_cons pe_int (pa_cons pe_int pa_nil)))))) pa_nil)))) pa_nil)))), ?_⟩
    walk_at "go"
    refine ⟨by omega, by omega, fun D hD => ?_⟩
    refine lc_range (fun i H' => Same H H' ∧ ∃ ys, H' D = some (.lst ys) ∧ Acc RowV H' ys (onesF m) i) ⟨Same.updD (Same.refl H) hD, [], upd_same, Acc.nil⟩ (fun i H' hi hP => ?_) (fun H' hP => ?_)
    · obtain ⟨sm, ys, hD', hacc⟩ := hP
      have hi' : i < m := by omega
      walk_at "go"
      refine ⟨rfl, ?_⟩
      walk_at "go"
      refine ⟨by omega, by omega, fun D2 hD2 => ?_⟩
      have nD : D ≠ D2 := fresh_of hD' hD2
      refine lc_range (fun j H'' => Same H' H'' ∧ ∃ zs, H'' D2 = some (.lst zs) ∧ Acc NumV H'' zs ((List.range m).map fun j => ((if i = j then 1 else 0 : Int), (1 : Int))) j) ⟨Same.updD (Same.refl H') hD2, [], upd_same, Acc.nil⟩ (fun j H'' hj hP => ?_) (fun H'' hP => ?_)
      · obtain ⟨sm2, zs, hD2', hacc2⟩ := hP
        have hj' : j < m := by omega
        have fin : ∀ (p3 : Addr) (H3 : Hp), Same H'' H3 → H3 p3 = some (.tup [.int (if i = j then 1 else 0), .int 1]) → ∃ acc, H3 D2 = some (.lst acc) ∧ acc.length < sizeLine ∧ Same H' (upd H3 D2 (.lst (acc ++ [V.ref p3]))) ∧ ∃ zs, (upd H3 D2 (.lst (acc ++ [V.ref p3]))) D2 = some (.lst zs) ∧ Acc NumV (upd H3 D2 (.lst (acc ++ [V.ref p3]))) zs ((List.range m).map fun j => ((if i = j then 1 else 0 : Int), (1 : Int))) (j + 1) := fun p3 H3 s3 h3 => by
          have h3D := s3 _ _ hD2'
          have kt : Kt H'' (upd H3 D2 (.lst (zs ++ [V.ref p3]))) := (Kt.of s3).trans (Kt.updL h3D)
          refine ⟨zs, h3D, small1000 (by rw [hacc2.1]; omega), Same.updD (sm2.trans s3) hD2, _, upd_same, ?_⟩
          exact (hacc2.mono fun x a h => NumV.kt h kt).snoc (a := ((if i = j then 1 else 0 : Int), (1 : Int))) (by rw [List.getElem?_map, List.getElem?_range hj']; rfl) ⟨p3, rfl, Kt.updL h3D _ _ h3⟩
        walk_at "go"
        refine ⟨rfl, ?_⟩
        walk_at "go"
        refine w_ite (fun hc => ?_) (fun hc => ?_)
        · walk_at "go"
          refine w_new (by simp) fun p3 H3 hp3 s3 h3 => ?_
          refine fin p3 H3 s3 ?_
          rw [if_pos (show i = j by omega)]
          exact h3
        · walk_at "go"
          refine w_new (by simp) fun p3 H3 hp3 s3 h3 => ?_
          refine fin p3 H3 s3 ?_
          rw [if_neg (show ¬ i = j by omega)]
          exact h3
      · obtain ⟨sm2, zs, hD2', hacc2⟩ := hP
        walk_at "go"
        refine ⟨_, _, rfl, .inl ⟨SqL.of hD2', fun l hl => ?_⟩⟩
        have s4 := same_upd (o := HO.tup zs) hl
        have h4D := s4 _ _ (sm2 _ _ hD')
        have kt : Kt H' (upd (upd H'' l (.tup zs)) D (.lst (ys ++ [V.ref l]))) := (Kt.of (sm2.trans s4)).trans (Kt.updL h4D)
        refine ⟨ys, h4D, small1000 (by rw [hacc.1]; omega), Same.updD (sm.trans (sm2.trans s4)) hD, _, upd_same, ?_⟩
        refine (hacc.mono fun x a h => RowV.kt h kt).snoc (a := (List.range m).map fun j => ((if i = j then 1 else 0 : Int), (1 : Int))) (by unfold onesF; rw [List.getElem?_map, List.getElem?_range hi']; rfl) ?_
        refine RowV.kt ((hacc2.mono fun x a h => NumV.kt h (Kt.of s4)).sq (p := l) ?_ upd_same) (Kt.updL h4D)
        rw [List.length_map, List.length_range]
        omega
    · obtain ⟨sm, ys, hD', hacc⟩ := hP
      walk_at "go"
      refine ⟨_, _, rfl, .inl ⟨SqL.of hD', fun l hl => ?_⟩⟩
      refine q _ _ (sm.trans (same_upd hl)) ((hacc.mono fun x a h => RowV.kt h (Kt.of (same_upd hl))).sq ?_ upd_same)
      unfold onesF
      rw [List.length_map, List.length_range]
      omega
theorem ok__law_bag {f : Addr} {fd : FuncData} (F : FnP K "_law_bag" s__law_bag f fd) (m_len : mg "len" = none) (m_abs : mg "abs" = none) :
    FnOk P w K mg base CX0 1 f fd ["_law_script", "_law_at"] (sp__law_bag K) := by
  refine F.ok sc__law_bag (fun vs H Q E h => ?_) (fun cdv A outer s H vs Q E hr h => ?_)
  · obtain ⟨a, ns, k, rfl, hS, hk0, hk, q⟩ := h
    rfl
  · obtain ⟨a, ns, k, rfl, hS, hk0, hk, q⟩ := h
    refine ⟨_, PSs.nox (pss_cons (ps_set (i := 2) sc__law_bag.nd rfl (.inl rfl) pe_int)
        (pss_cons (ps_if (pt_cmpR op_lt (pv 1) (pe_callB call_len_seq (by rfl) m_len (by decide +kernel) (pa_cons (pv 0) pa_nil)) (nomark _)) (pss_one (ps_set (i := 2) sc__law_bag.nd rfl (.inl rfl) (pe_ix ix_list (pv 0) (pv 1) (fun _ _ => rfl)))) pss_nil)
        (pss_cons (ps_set (i := 3) sc__law_bag.nd rfl (.inl rfl) pe_int)
        (pss_cons (ps_if (pt_cmpR op_ge (pe_callB call_abs (by rfl) m_abs (by decide +kernel) (pa_cons (pv 2) pa_nil)) (pe_op op_pow pe_int pe_int) (nomark _)) (pss_one (ps_set (i := 3) sc__law_bag.nd rfl (.inl rfl) (pe_callB call_abs (by rfl) m_abs (by decide +kernel) (pa_cons (pv 2) pa_nil)))) pss_nil)
        (pss_cons (ps_set (i := 4) sc__law_bag.nd rfl (.inl rfl) (pe_lst (pa_cons pe_int (pa_cons pe_int (pa_cons pe_int (pa_cons pe_int (pa_cons pe_int (pa_cons pe_int (pa_cons pe_int (pa_cons pe_int pa_nil))))))))))
        (pss_cons (ps_set (i := 5) sc__law_bag.nd rfl (.inl rfl) (pe_op op_add (pe_op op_add (pe_op op_add (pe_op op_mul (pe_op op_modN (pv 2) pe_int) pe_int) (pe_op op_mul (pe_op op_mul pe_int (pv 1)) (pv 1))) (pe_op op_mul pe_int (pv 1))) pe_int))
        (pss_one (ps_ret (pe_lst (pa_cons (pv 3) (pa_cons (pe_op op_modN (pv 5) (pe_ix ix_list (pv 4) (pe_op op_modN (pv 1) pe_int) (fun _ _ => rfl))) pa_nil))))))))))), ?_⟩
    walk_at "go"
    refine ⟨a, _, rfl, .inl hS, ?_⟩
    walk_at "go"
    refine w_ite (fun hc => ?a) (fun hc => ?b)
    case' a =>
      have hlt : k.toNat < ns.length := by
        rw [List.length_map] at hc
        omega
      obtain ⟨cl, hcl⟩ : ∃ cl, ns[k.toNat]? = some cl := ⟨_, List.getElem?_eq_getElem hlt⟩
      have hat : atI (ns.map V.int) ((k.toNat : Nat) : Int) = some (.int cl) := atI_nat (by rw [List.getElem?_map, hcl]; rfl)
      rw [show ((k.toNat : Nat) : Int) = k by omega] at hat
      walk_at "go"
      refine w_ixLs hS hat ?_
    all_goals
      walk_at "go"
      refine w_Iv ⟨by decide, by decide, by decide⟩ rfl ?_
      walk_at "go"
      refine w_ite (fun hc2 => ?_) (fun hc2 => ?_)
    all_goals
      walk_at "go"
      refine w_new (by simp) fun p1 H1 hp1 s1 h1 => ?_
      walk_at "go"
      refine w_I (by decide) ?_
      walk_at "go"
      refine w_I (.inr ⟨by decide, by decide⟩) ?_
      walk_at "go"
      refine w_I (.inl ⟨by decide, by decide⟩) ?_
      walk_at "go"
      refine w_I (.inr ⟨by omega, by omega⟩) ?_
      walk_at "go"
      refine w_I (.inl ⟨by decide, by decide⟩) ?_
      walk_at "go"
      refine w_I (by decide) ?_
      obtain ⟨m, em, hm0, hm1⟩ := bag_primes (i := k.fmod 8) (by rw [fmod_pos _ (by decide)]; exact Int.emod_nonneg _ (by decide)) (by rw [fmod_pos _ (by decide)]; exact Int.emod_lt_of_pos _ (by decide))
      refine w_ixL h1 em ?_
      refine w_I (by omega) ?_
      walk_at "go"
      refine w_new (by simp) fun p2 H2 hp2 s2 h2 => ?_
      refine q p2 H2 (s1.free hp2) (s1.trans s2) ⟨_, _, h2, ?_, ?_, ?_⟩
      · first | decide | omega
      · rw [fmod_pos _ hm0]
        exact Int.emod_nonneg _ (by omega)
      · rw [fmod_pos _ hm0]
        exact Int.lt_of_lt_of_le (Int.emod_lt_of_pos _ hm0) hm1
theorem ok__law_take {f : Addr} {fd : FuncData} (F : FnP K "_law_take" s__law_take f fd) :
    FnOk P w K mg base CX0 1 f fd ["_law_bag_here", "_law_many"] (sp__law_take K) := by
  refine F.ok sc__law_take (fun vs H Q E h => ?_) (fun cdv A outer s H vs Q E hr h => ?_)
  · obtain ⟨b, m, rfl, hm, hm2, hb, q⟩ := h
    rfl
  · obtain ⟨b, m, rfl, hm, hm2, hb, q⟩ := h
    refine ⟨_, PSs.nox (pss_cons (ps_if (pt_cmpR op_gt (pe_ix ix_list (pv 0) pe_int (fun _ _ => rfl)) pe_int (nomark _)) (pss_cons (ps_set (i := 2) sc__law_take.nd rfl (.inl rfl) (pe_op op_modN (pe_ix ix_list (pv 0) pe_int (fun _ _ => rfl)) (pv 1)))
        (pss_cons (ps_asg (pe_op op_fdivZ (pe_ix ix_list (pv 0) pe_int (fun _ _ => rfl)) (pv 1)) (pg_sub (pv 0) pe_int set_list))
        (pss_one (ps_ret (pv 2))))) pss_nil)
        (pss_cons (ps_asg (pe_op op_modN (pe_op op_add (pe_op op_mul (pe_ix ix_list (pv 0) pe_int (fun _ _ => rfl)) pe_int) pe_int) pe_int) (pg_sub (pv 0) pe_int set_list))
        (pss_one (ps_ret (pe_op op_modN (pe_op op_fdivZ (pe_op op_modN (pe_op op_pow (pe_ix ix_list (pv 0) pe_int (fun _ _ => rfl)) pe_int) pe_int) pe_int) (pv 1)))))), ?_⟩
    obtain ⟨A, B, hb, hA, hB, hB2⟩ := hb
    walk_at "go"
    refine w_ite (fun hc => ?_) (fun hc => ?_)
    · walk_at "go"
      refine w_I (by omega) ?_
      walk_at "go"
      refine w_I (divZ_small hm (by omega)) ?_
      walk_at "go"
      refine w_setL hb rfl ?_
      walk_at "go"
      refine q _ _ ?_ ?_ Mv.upd ⟨_, _, upd_same, ?_, hB, hB2⟩
      · rw [fmod_pos _ hm]
        exact Int.emod_nonneg _ (by omega)
      · rw [fmod_pos _ hm]
        exact Int.emod_lt_of_pos _ hm
      · rw [fdiv_pos _ hm]
        exact Int.ediv_nonneg hA (by omega)
    · walk_at "go"
      refine w_I (.inr ⟨by decide, by decide⟩) ?_
      walk_at "go"
      refine w_I (by decide) ?_
      walk_at "go"
      refine w_setL hb rfl ?_
      walk_at "go"
      have hb' : (upd H b (.lst ([V.int A, V.int B].set 1 (V.int ((B * 48271 + 2531011).fmod 2147483647))))) b = some (.lst [.int A, .int ((B * 48271 + 2531011).fmod 2147483647)]) := upd_same
      have hx : 0 ≤ (B * 48271 + 2531011).fmod 2147483647 ∧ (B * 48271 + 2531011).fmod 2147483647 < 2147483647 := by
        rw [fmod_pos _ (by decide)]
        exact ⟨Int.emod_nonneg _ (by decide), Int.emod_lt_of_pos _ (by decide)⟩
      generalize (B * 48271 + 2531011).fmod 2147483647 = x at hb' hx ⊢
      refine w_ixL hb' rfl ?_
      walk_at "go"
      refine w_I ⟨by decide, by decide, by omega⟩ ?_
      walk_at "go"
      refine w_I (by decide) ?_
      walk_at "go"
      refine w_I (divZ_small (by decide) (by decide)) ?_
      walk_at "go"
      refine w_I (by omega) ?_
      refine q _ _ ?_ ?_ Mv.upd ⟨_, _, hb', hA, hx.1, hx.2⟩
      · rw [fmod_pos _ hm]
        exact Int.emod_nonneg _ (by omega)
      · rw [fmod_pos _ hm]
        exact Int.emod_lt_of_pos _ hm
theorem ok__law_shared {f : Addr} {fd : FuncData} (F : FnP K "_law_shared" s__law_shared f fd) (m_abs : mg "abs" = none) :
    FnOk P w K mg base CX0 1 f fd ["_law_one", "_law_other"] (sp__law_shared K) := by
  refine F.ok sc__law_shared (fun vs H Q E h => ?_) (fun cdv A outer s H vs Q E hr h => ?_)
  · obtain ⟨a, c, rfl, q⟩ := h
    rfl
  · obtain ⟨a, c, rfl, q⟩ := h
    refine ⟨_, PSs.nox (pss_cons (ps_par (i := 0) (j := 1) (by rfl) sc__law_shared.nd rfl rfl (by decide) rfl rfl (pa_cons (pe_callB call_abs (by rfl) m_abs (by decide +kernel) (pa_cons (pv 0) pa_nil)) (pa_cons (pe_callB call_abs (by rfl) m_abs (by decide +kernel) (pa_cons (pv 1) pa_nil)) pa_nil)) (by rfl))
        (pss_cons (ps_while PassesOwn.never (pt_cmpR op_gt (pv 1) pe_int (nomark _)) (pss_one (ps_par (i := 0) (j := 1) (by rfl) sc__law_shared.nd rfl rfl (by decide) rfl rfl (pa_cons (pv 1) (pa_cons (pe_op op_modN (pv 0) (pv 1)) pa_nil)) (by rfl))))
        (pss_one (ps_ret (pv 0))))), ?_⟩
    walk_at "go"
    rw [abs_nat, abs_nat]
    refine while_by (fun σ H' => ∃ x y : Nat, σ = [some (.int (x : Int)), some (.int (y : Int))] ∧ Nat.gcd x y = Int.gcd a c ∧ H' = H) (fun σ _ => match σ with | [_, some (.int y)] => y.toNat | _ => 0) ⟨a.natAbs, c.natAbs, rfl, rfl, rfl⟩ (fun σ H' hP => ?_) (fun σ H' Q1 Q2 f h => ?_)
    · obtain ⟨x, y, rfl, e, rfl⟩ := hP
      walk_at "go"
      refine w_ite (fun hc => ?_) (fun hc => ?_)
      · walk_at "go"
        refine w_I (by omega) ?_
        walk_at "go"
        have e1 : (x : Int).fmod (y : Int) = ((x % y : Nat) : Int) := by
          rw [fmod_pos _ hc]
          rfl
        rw [e1]
        refine ⟨⟨y, x % y, rfl, ?_, rfl⟩, ?_⟩
        · rw [← e, Nat.gcd_comm y, ← Nat.gcd_rec, Nat.gcd_comm]
        · show ((x % y : Nat) : Int).toNat < ((y : Nat) : Int).toNat
          have := Nat.mod_lt x (by omega : y > 0)
          omega
      · walk_at "go"
        have e0 : y = 0 := by omega
        subst e0
        rw [Nat.gcd_zero_right] at e
        rw [e]
        exact q
    · obtain ⟨v, hv, i, j, e1, e2, k, ek, qq⟩ := h
      exact ⟨v, hv, i, j, e1, e2, k, ek, f _ _ qq⟩
theorem ok__law_turned {f : Addr} {fd : FuncData} (F : FnP K "_law_turned" s__law_turned f fd) (m_tuple : mg "tuple" = none) (m_range : mg "range" = none) (m_len : mg "len" = none) :
    FnOk P w K mg base CX0 1 f fd ["_law_table"] (sp__law_turned K) := by
  refine F.ok sc__law_turned (fun vs H Q E h => ?_) (fun cdv A outer s H vs Q E hr h => ?_)
  · obtain ⟨v, t, l, rfl, hv, ht0, ht, hl, hl10, q⟩ := h
    rfl
  · obtain ⟨v, t, l, rfl, hv, ht0, ht, hl, hl10, q⟩ := h
    refine ⟨_, PSs.nox (pss_one (ps_ret (pe_callTy call_tuple_of (by rfl) m_tuple (by decide +kernel) (pa_cons (pe_lc (own := [("_law_k", 1)]) (g := gName 1) (tt := tYes) (by rfl) sc__law_turned.nd (pi_range1 (by rfl) m_range (pa_cons (pe_callB call_len_seq (by rfl) m_len (by decide +kernel) (pa_cons (pe_ix ix_tup (pv 0) pe_int (fun _ _ => rfl)) pa_nil)) pa_nil)) (blkOk_by (own := [("_law_k", 1)]) (N := ["_law_table", "_law_k", "_law_row_here"]) (sc := defScope s__law_turned) (by decide +kernel)) (fun _ _ _ _ _ => (pg_name (i := 1) sc__law_turned.nd rfl (.inr rfl))) (fun _ _ _ _ _ => pts_nil) (fun _ _ _ _ _ => (pe_callTy (r := rTupOf K) call_tupOf (by rfl) m_tuple (by decide +kernel) (pa_cons (pe_lc (own := [("_law_row_here", 2)]) (g := gName 2) (tt := tYes) (wi := iTup K (tVar 0)) (by rfl) sc__law_turned.nd (pi_tup (pv 0)) (blkOk_by (own := [("_law_row_here", 2)]) (N := ["_law_table", "_law_k", "_law_row_here"]) (sc := ({ kind := PySem.ScopeKind.function, names := [ (PySem.Str.ofString ".0", PySem.NameKind.local), (PySem.Str.ofString "_law_k", PySem.NameKind.cell), (PySem.Str.ofString "tuple", PySem.NameKind.globalImplicit), (PySem.Str.ofString "_law_table", PySem.NameKind.cell)], isGenerator := false, isCoroutine := false, more := [] } : Scope)) (by decide +kernel)) (fun _ _ _ _ _ => (pg_name (i := 2) sc__law_turned.nd rfl (.inl rfl))) (fun _ _ _ _ _ => pts_nil) (fun _ _ _ _ _ => (pe_ix (r := rIxT K) ix_tup (pv 2) (pv 1) (fun _ _ => rfl)))) pa_nil)))) pa_nil)))), ?_⟩
    obtain ⟨p, xs, rfl, hp, hlx, hx⟩ := hv
    obtain ⟨x0, hx0⟩ : ∃ x0, xs[0]? = some x0 := ⟨_, List.getElem?_eq_getElem (by omega)⟩
    have ht00 : t[0]? = some t[0] := List.getElem?_eq_getElem ht0
    obtain ⟨p0, ns0, rfl, hp0, hl0, hn0⟩ := hx 0 x0 _ hx0 ht00
    have hl0' : ns0.length = l := by rw [hl0]; exact hl _ (List.getElem_mem ht0)
    walk_at "go"
    refine w_ixT hp (atI_nat (j := 0) hx0) ?_
    walk_at "go"
    refine ⟨p0, ns0, rfl, .inr (SqT.of hp0), ?_⟩
    walk_at "go"
    refine ⟨by omega, by omega, fun D hD => ?_⟩
    rw [hl0']
    refine lc_range (fun j H' => Same H H' ∧ ∃ ys, H' D = some (.lst ys) ∧ Acc RowV H' ys (turnF l t) j) ⟨Same.updD (Same.refl H) hD, [], upd_same, Acc.nil⟩ (fun j H' hj hP => ?_) (fun H' hP => ?_)
    · obtain ⟨sm, ys, hD', hacc⟩ := hP
      have hj' : j < l := hj
      have hp' := sm _ _ hp
      walk_at "go"
      refine ⟨rfl, ?_⟩
      walk_at "go"
      refine ⟨p, rfl, ⟨xs, SqT.of hp'⟩, fun D2 hD2 => ?_⟩
      have nD : D ≠ D2 := fresh_of hD' hD2
      refine lc_tup (xs := xs) (fun i H'' => Same H' H'' ∧ ∃ zs, H'' D2 = some (.lst zs) ∧ Acc NumV H'' zs (t.map fun row => row.getD j (0, 1)) i) ⟨Same.updD (Same.refl H') hD2, [], upd_same, Acc.nil⟩ (fun i H'' _ hP => SqT.of (hP.1 _ _ hp')) (fun i x H'' hxi hP => ?_) (fun H'' hP => ?_)
      · obtain ⟨sm2, zs, hD2', hacc2⟩ := hP
        have hi : i < t.length := by
          have := (List.getElem?_eq_some_iff.mp hxi).1
          omega
        have hti : t[i]? = some t[i] := List.getElem?_eq_getElem hi
        obtain ⟨pr, ns, rfl, hpr, hln, hns⟩ := hx i x _ hxi hti
        have hlr := hl _ (List.getElem_mem hi)
        obtain ⟨y, hy⟩ : ∃ y, ns[j]? = some y := ⟨_, List.getElem?_eq_getElem (by omega)⟩
        have htj : t[i][j]? = some (t[i].getD j (0, 1)) := by
          rw [List.getD_eq_getElem?_getD, List.getElem?_eq_getElem (by omega)]
          rfl
        have hn := hns j y _ hy htj
        have hpr' := sm2 _ _ (sm _ _ hpr)
        walk_at "go"
        refine ⟨rfl, ?_⟩
        walk_at "go"
        rw [Int.zero_add]
        refine w_ixT hpr' (atI_nat hy) ?_
        have kt : Kt H'' (upd H'' D2 (.lst (zs ++ [y]))) := Kt.updL hD2'
        refine ⟨zs, hD2', small1000 (by rw [hacc2.1]; omega), Same.updD sm2 hD2, _, upd_same, ?_⟩
        exact (hacc2.mono fun x a h => NumV.kt h kt).snoc (a := t[i].getD j (0, 1)) (by rw [List.getElem?_map, hti]; rfl) ((hn.kt (Kt.of (sm.trans sm2))).kt kt)
      · obtain ⟨sm2, zs, hD2', hacc2⟩ := hP
        walk_at "go"
        refine w_tupOf2 hD2' ?_
        refine w_newO fun q3 H3 hq3 s3 h3 => ?_
        have hD3 := s3 _ _ (sm2 _ _ hD')
        have kt : Kt H' (upd H3 D (.lst (ys ++ [V.ref q3]))) := (Kt.of (sm2.trans s3)).trans (Kt.updL hD3)
        refine ⟨ys, hD3, small1000 (by rw [hacc.1]; omega), Same.updD ((sm.trans sm2).trans s3) hD, _, upd_same, ?_⟩
        have hrow : RowV H3 (.ref q3) (t.map fun row => row.getD j (0, 1)) := (hacc2.mono fun x a h => NumV.kt h (Kt.of s3)).sq (by rw [List.length_map]; exact hlx) h3
        exact (hacc.mono fun x a h => RowV.kt h kt).snoc (turn_at hj') (RowV.kt hrow (Kt.updL hD3))
    · obtain ⟨sm, ys, hD', hacc⟩ := hP
      walk_at "go"
      refine ⟨_, _, rfl, .inl ⟨SqL.of hD', fun m hm => ?_⟩⟩
      exact q _ _ (sm.trans (same_upd hm)) ((hacc.mono fun x a h => RowV.kt h (Kt.of (same_upd hm))).sq (by unfold turnF; rw [List.length_map, List.length_range]; rfl) upd_same)
theorem ok__law_ones {f : Addr} {fd : FuncData} (F : FnP K "_law_ones" s__law_ones f fd) (m_tuple : mg "tuple" = none) (m_range : mg "range" = none) (m_int : mg "int" = none) :
    FnOk P w K mg base CX0 1 f fd ["_law_many"] (sp__law_ones K) := by
  refine F.ok sc__law_ones (fun vs H Q E h => ?_) (fun cdv A outer s H vs Q E hr h => ?_)
  · obtain ⟨m, rfl, hm, q⟩ := h
    rfl
  · obtain ⟨m, rfl, hm, q⟩ := h
    refine ⟨_, PSs.nox (pss_one (ps_ret (pe_callTy call_tuple_of (by rfl) m_tuple (by decide +kernel) (pa_cons (pe_lc (own := [("_law_i", 1)]) (g := gName 1) (tt := tYes) (by rfl) sc__law_ones.nd (pi_range1 (by rfl) m_range (pa_cons (pv 0) pa_nil)) (blkOk_by (own := [("_law_i", 1)]) (N := ["_law_many", "_law_i", "_law_j"]) (sc := defScope s__law_ones) (by decide +kernel)) (fun _ _ _ _ _ => (pg_name (i := 1) sc__law_ones.nd rfl (.inr rfl))) (fun _ _ _ _ _ => pts_nil) (fun _ _ _ _ _ => (pe_callTy (r := rTupOf K) call_tupOf (by rfl) m_tuple (by decide +kernel) (pa_cons (pe_lc (own := [("_law_j", 2)]) (g := gName 2) (tt := tYes) (wi := iRng1 (tCons (tVar 0) tNil)) (by rfl) sc__law_ones.nd (pi_range1 (by rfl) m_range (pa_cons (pv 0) pa_nil)) (blkOk_by (own := [("_law_j", 2)]) (N := ["_law_many", "_law_i", "_law_j"]) (sc := ({ kind := PySem.ScopeKind.function, names := [ (PySem.Str.ofString ".0", PySem.NameKind.local), (PySem.Str.ofString "_law_i", PySem.NameKind.cell), (PySem.Str.ofString "tuple", PySem.NameKind.globalImplicit), (PySem.Str.ofString "range", PySem.NameKind.globalImplicit), (PySem.Str.ofString "_law_many", PySem.NameKind.cell)], isGenerator := false, isCoroutine := false, more := [] } : Scope)) (by decide +kernel)) (fun _ _ _ _ _ => (pg_name (i := 2) sc__law_ones.nd rfl (.inl rfl))) (fun _ _ _ _ _ => pts_nil) (fun _ _ _ _ _ => (pe_tup (pa_cons (pe_callTy call_int1 (by rfl) m_int (by decide +kernel) (pa_cons (pe_cmpR op_eq (pv 1) (pv 2) (nomark _)) pa_nil)) (pa_cons pe_int pa_nil))))) pa_nil)))) pa_nil)))), ?_⟩
    walk_at "go"
    refine ⟨by omega, by omega, fun D hD => ?_⟩
    refine lc_range (fun i H' => Same H H' ∧ ∃ ys, H' D = some (.lst ys) ∧ Acc RowV H' ys (onesF m) i) ⟨Same.updD (Same.refl H) hD, [], upd_same, Acc.nil⟩ (fun i H' hi hP => ?_) (fun H' hP => ?_)
    · obtain ⟨sm, ys, hD', hacc⟩ := hP
      have hi' : i < m := by omega
      walk_at "go"
      refine ⟨rfl, ?_⟩
      walk_at "go"
      refine ⟨by omega, by omega, fun D2 hD2 => ?_⟩
      have nD : D ≠ D2 := fresh_of hD' hD2
      refine lc_range (fun j H'' => Same H' H'' ∧ ∃ zs, H'' D2 = some (.lst zs) ∧ Acc NumV H'' zs ((List.range m).map fun j => ((if i = j then 1 else 0 : Int), (1 : Int))) j) ⟨Same.updD (Same.refl H') hD2, [], upd_same, Acc.nil⟩ (fun j H'' hj hP => ?_) (fun H'' hP => ?_)
      · obtain ⟨sm2, zs, hD2', hacc2⟩ := hP
        have hj' : j < m := by omega
        walk_at "go"
        refine ⟨rfl, ?_⟩
        walk_at "go"
        refine .inr ⟨_, rfl, ?_⟩
        walk_at "go"
        refine w_new (by simp) fun p3 H3 hp3 s3 h3 => ?_
        have h3D := s3 _ _ hD2'
        have kt : Kt H'' (upd H3 D2 (.lst (zs ++ [V.ref p3]))) := (Kt.of s3).trans (Kt.updL h3D)
        refine ⟨zs, h3D, small1000 (by rw [hacc2.1]; omega), Same.updD (sm2.trans s3) hD2, _, upd_same, ?_⟩
        refine (hacc2.mono fun x a h => NumV.kt h kt).snoc (a := ((if i = j then 1 else 0 : Int), (1 : Int))) (by rw [List.getElem?_map, List.getElem?_range hj']; rfl) ⟨p3, rfl, ?_⟩
        have e : (if decide ((0 : Int) + (i : Int) = 0 + (j : Int)) = true then (1 : Int) else 0) = if i = j then 1 else 0 := by
          by_cases h : i = j
          · rw [if_pos h, decide_eq_true (by omega)]; rfl
          · rw [if_neg h, decide_eq_false (by omega)]; rfl
        rw [e] at h3
        exact Kt.updL h3D _ _ h3
      · obtain ⟨sm2, zs, hD2', hacc2⟩ := hP
        walk_at "go"
        refine ⟨_, _, rfl, .inl ⟨SqL.of hD2', fun l hl => ?_⟩⟩
        have s4 := same_upd (o := HO.tup zs) hl
        have h4D := s4 _ _ (sm2 _ _ hD')
        have kt : Kt H' (upd (upd H'' l (.tup zs)) D (.lst (ys ++ [V.ref l]))) := (Kt.of (sm2.trans s4)).trans (Kt.updL h4D)
        refine ⟨ys, h4D, small1000 (by rw [hacc.1]; omega), Same.updD (sm.trans (sm2.trans s4)) hD, _, upd_same, ?_⟩
        refine (hacc.mono fun x a h => RowV.kt h kt).snoc (a := (List.range m).map fun j => ((if i = j then 1 else 0 : Int), (1 : Int))) (by unfold onesF; rw [List.getElem?_map, List.getElem?_range hi']; rfl) ?_
        refine RowV.kt ((hacc2.mono fun x a h => NumV.kt h (Kt.of s4)).sq (p := l) ?_ upd_same) (Kt.updL h4D)
        rw [List.length_map, List.length_range]
        omega
    · obtain ⟨sm, ys, hD', hacc⟩ := hP
      walk_at "go"
      refine ⟨_, _, rfl, .inl ⟨SqL.of hD', fun l hl => ?_⟩⟩
      refine q _ _ (sm.trans (same_upd hl)) ((hacc.mono fun x a h => RowV.kt h (Kt.of (same_upd hl))).sq ?_ upd_same)
      unfold onesF
      rw [List.length_map, List.length_range]
      omega
theorem ok_is_ground {f : Addr} {fd : FuncData} (F : FnP K "is_ground" s_is_ground f fd)
    {f_is_whole : Addr} {fd_is_whole : FuncData} (F_is_whole : FnP K "is_whole" s_is_whole f_is_whole fd_is_whole) (b_is_whole : Binds K fd_is_whole ["thing"] []) (g_is_whole : mg "is_whole" = some (.ref f_is_whole)) (G_is_whole : FnOk P w K mg base CX0 1 f_is_whole fd_is_whole ["thing"] (sp_is_whole K))
    {a_GROUNDS : Addr} (mg_GROUNDS : mg "GROUNDS" = some (.ref a_GROUNDS)) (gr_GROUNDS : ∀ H : Hp, SqT K H a_GROUNDS [.int 0, .int 3, .int 5, .int 7, .int 11, .int 13]) :
    FnOk P w K mg base CX0 2 f fd ["thing"] (sp_is_ground K) := by
  refine F.ok sc_is_ground (fun vs H Q E h => ?_) (fun cdv A outer s H vs Q E hr h => ?_)
  · obtain ⟨i, rfl, q⟩ := h
    rfl
  · obtain ⟨i, rfl, q⟩ := h
    refine ⟨_, PSs.nox (pss_one (ps_ret (pe_and (pe_call G_is_whole hr (by rfl) g_is_whole F_is_whole.kp b_is_whole .nil pass0 (pa_cons (pv 0) pa_nil)) (pe_one (pe_cmpR op_in_seq (pv 0) (pe_glob (v := .ref a_GROUNDS) (by rfl) mg_GROUNDS rfl) (by rfl)))))), ?_⟩
    walk_at "go"
    refine ⟨.int i, rfl, .inl rfl, ?_⟩
    walk_at "go"
    refine w_iteB (fun _ => ?_) (fun z => by cases (show true = false from z))
    walk_at "go"
    refine ⟨_, _, rfl, .inr (gr_GROUNDS _), rfl, rfl, ?_⟩
    rw [← in_grd] at q
    exact q
theorem ok_is_number {f : Addr} {fd : FuncData} (F : FnP K "is_number" s_is_number f fd)
    {f_is_whole : Addr} {fd_is_whole : FuncData} (F_is_whole : FnP K "is_whole" s_is_whole f_is_whole fd_is_whole) (b_is_whole : Binds K fd_is_whole ["thing"] []) (g_is_whole : mg "is_whole" = some (.ref f_is_whole)) (G_is_whole : FnOk P w K mg base CX0 1 f_is_whole fd_is_whole ["thing"] (sp_is_whole K))
    {f_common_divisor : Addr} {fd_common_divisor : FuncData} (F_common_divisor : FnP K "common_divisor" s_common_divisor f_common_divisor fd_common_divisor) (b_common_divisor : Binds K fd_common_divisor ["a", "b"] []) (g_common_divisor : mg "common_divisor" = some (.ref f_common_divisor)) (G_common_divisor : FnOk P w K mg base CX0 1 f_common_divisor fd_common_divisor ["a", "b"] (sp_common_divisor K)) (m_isinstance : mg "isinstance" = none) (m_tuple : mg "tuple" = none) (m_len : mg "len" = none) :
    FnOk P w K mg base CX0 2 f fd ["ground", "thing"] (sp_is_number K) := by
  refine F.ok sc_is_number (fun vs H Q E h => ?_) (fun cdv A outer s H vs Q E hr h => ?_)
  · obtain ⟨g, v, kb, nb, rfl, hv, q⟩ := h
    rfl
  · obtain ⟨g, v, kb, nb, rfl, hv, q⟩ := h
    refine ⟨_, PSs.nox (pss_cons (ps_if (PW.pt (pw_or (pt_not (pt_val (pe_callB call_isi (by rfl) m_isinstance (by decide +kernel) (pa_cons (pv 1) (pa_cons (pe_bltn (v := .ty "tuple") (by rfl) m_tuple (by decide +kernel) rfl) pa_nil))))) (pw_or1 (pt_cmpR op_ne (pe_callB call_len_seq (by rfl) m_len (by decide +kernel) (pa_cons (pv 1) pa_nil)) pe_int (nomark _))))) (pss_one (ps_ret pe_bl)) pss_nil)
        (pss_cons (ps_asg (pv 1) (pg_tup rfl (pgs_cons (pg_name (i := 2) sc_is_number.nd rfl (.inl rfl)) (pgs_cons (pg_name (i := 3) sc_is_number.nd rfl (.inl rfl)) pgs_nil))))
        (pss_cons (ps_if (PW.pt (pw_or (pt_not (pt_val (pe_call G_is_whole hr (by rfl) g_is_whole F_is_whole.kp b_is_whole .nil pass0 (pa_cons (pv 2) pa_nil)))) (pw_or1 (pt_not (pt_val (pe_call G_is_whole hr (by rfl) g_is_whole F_is_whole.kp b_is_whole .nil pass0 (pa_cons (pv 3) pa_nil))))))) (pss_one (ps_ret pe_bl)) pss_nil)
        (pss_cons (ps_if (pt_cmpR op_eq (pv 0) pe_int (nomark _)) (pss_one (ps_ret (pe_and (pe_cmpR op_ge (pv 3) pe_int (nomark _)) (pe_one (pe_cmpR op_eq (pe_call G_common_divisor hr (by rfl) g_common_divisor F_common_divisor.kp b_common_divisor .nil pass0 (pa_cons (pv 2) (pa_cons (pv 3) pa_nil))) pe_int (nomark _)))))) pss_nil)
        (pss_one (ps_ret (pe_and (pe_chain op_le op_lt pe_int (pv 2) (pv 0)) (pe_one (pe_cmpR op_eq (pv 3) pe_int (nomark _)))))))))), ?_⟩
    walk_at "go"
    refine tb_tup hv (fun p xs e hp hz hx => ?_) (fun hn => ?_)
    · subst e
      rw [numOf_tup hp] at q
      walk_at "go"
      refine iteF ?_
      walk_at "go"
      refine ⟨p, xs, rfl, .inr (SqT.of hp), ?_⟩
      walk_at "go"
      refine w_iteN (fun hl => ?_) (fun hl => ?_)
      · walk_at "go"
        rw [numOk_len (by omega)] at q
        exact q
      · obtain ⟨t, b, rfl⟩ : ∃ t b, xs = [t, b] := by
          match xs, hl with
          | [t, b], _ => exact ⟨t, b, rfl⟩
          | [], h => simp at h
          | [_], h => simp at h
          | _ :: _ :: _ :: _, h => simp at h; omega
        walk_at "go"
        refine ⟨t, rfl, (hx t (by simp)).tv, ?_⟩
        walk_at "go"
        refine w_iteBN (fun hw => ?_) (fun hw => ?_)
        · walk_at "go"
          rw [numOk_l hw] at q
          exact q
        · walk_at "go"
          refine ⟨b, rfl, (hx b (by simp)).tv, ?_⟩
          walk_at "go"
          refine w_iteBN (fun hw2 => ?_) (fun hw2 => ?_)
          · walk_at "go"
            rw [numOk_r hw2] at q
            exact q
          · obtain ⟨t, rfl⟩ := whole_int hw
            obtain ⟨b, rfl⟩ := whole_int hw2
            walk_at "go"
            refine w_ite (fun hg => ?_) (fun hg => ?_)
            · subst hg
              rw [numOk_0] at q
              walk_at "go"
              refine w_ite (fun hb => ?_) (fun hb => ?_)
              · walk_at "go"
                refine ⟨t, b, rfl, ?_⟩
                walk_at "go"
                rw [decide_eq_true hb] at q
                exact q
              · rw [decide_eq_false hb] at q
                exact q
            · rw [numOk_g hg] at q
              walk_at "go"
              refine w_ite (fun h0 => ?_) (fun h0 => ?_)
              · walk_at "go"
                refine w_ite (fun h1 => ?_) (fun h1 => ?_)
                · walk_at "go"
                  rw [decide_eq_true h0, decide_eq_true h1] at q
                  exact q
                · rw [decide_eq_true h0, decide_eq_false h1] at q
                  exact q
              · walk_at "go"
                rw [decide_eq_false h0] at q
                exact q
    · rw [numOf_no hn] at q
      walk_at "go"
      refine iteT ?_
      walk_at "go"
      exact q
theorem ok_lowest {f : Addr} {fd : FuncData} (F : FnP K "lowest" s_lowest f fd)
    {f_common_divisor : Addr} {fd_common_divisor : FuncData} (F_common_divisor : FnP K "common_divisor" s_common_divisor f_common_divisor fd_common_divisor) (b_common_divisor : Binds K fd_common_divisor ["a", "b"] []) (g_common_divisor : mg "common_divisor" = some (.ref f_common_divisor)) (G_common_divisor : FnOk P w K mg base CX0 1 f_common_divisor fd_common_divisor ["a", "b"] (sp_common_divisor K))
    {f_wheel_back : Addr} {fd_wheel_back : FuncData} (F_wheel_back : FnP K "wheel_back" s_wheel_back f_wheel_back fd_wheel_back) (b_wheel_back : Binds K fd_wheel_back ["wheel", "whole"] []) (g_wheel_back : mg "wheel_back" = some (.ref f_wheel_back)) (G_wheel_back : FnOk P w K mg base CX0 1 f_wheel_back fd_wheel_back ["wheel", "whole"] (sp_wheel_back K)) :
    FnOk P w K mg base CX0 2 f fd ["ground", "top", "bottom"] (sp_lowest K) := by
  refine F.ok sc_lowest (fun vs H Q E h => ?_) (fun cdv A outer s H vs Q E hr h => ?_)
  · obtain ⟨g, u, d, rfl, hh, q⟩ := h
    rfl
  · obtain ⟨g, u, d, rfl, hh, q⟩ := h
    refine ⟨_, PSs.nox (pss_cons (ps_if (pt_cmpR op_ne (pv 0) pe_int (nomark _)) (pss_one (ps_ret (pe_tup (pa_cons (pe_op op_modN (pe_op op_mulW (pv 1) (pe_call G_wheel_back hr (by rfl) g_wheel_back F_wheel_back.kp b_wheel_back .nil pass0 (pa_cons (pv 0) (pa_cons (pv 2) pa_nil)))) (pv 0)) (pa_cons pe_int pa_nil))))) pss_nil)
        (pss_cons (ps_set (i := 3) sc_lowest.nd rfl (.inl rfl) (pe_call G_common_divisor hr (by rfl) g_common_divisor F_common_divisor.kp b_common_divisor .nil pass0 (pa_cons (pv 1) (pa_cons (pv 2) pa_nil))))
        (pss_cons (ps_if (pt_cmpR op_lt (pv 2) pe_int (nomark _)) (pss_one (ps_set (i := 3) sc_lowest.nd rfl (.inl rfl) (pe_un un_neg (pv 3)))) pss_nil)
        (pss_one (ps_ret (pe_tup (pa_cons (pe_op op_fdivZ (pv 1) (pv 3)) (pa_cons (pe_op op_fdivZ (pv 2) (pv 3)) pa_nil)))))))), ?_⟩
    walk_at "go"
    refine w_iteN (fun hc => ?_) (fun hc => ?_)
    · rcases hh with ⟨h0, _⟩ | ⟨hg, hu, k, hk1, hk, hkd⟩
      · exact absurd h0 hc
      · walk_at "go"
        refine ⟨g, d, k, rfl, hg, hk1, hk, hkd, fun f hf1 hf hfd => ?_⟩
        refine w_I (wide_mul (b := 5) hu (show f.natAbs < 2 ^ 5 by omega) (by decide) (by decide) (by decide)) ?_
        walk_at "go"
        refine w_I (by omega) ?_
        walk_at "go"
        refine w_new (by simp) fun p1 H1 hp1 s1 h1 => ?_
        refine q p1 H1 hp1 s1 ?_
        rw [low_inv (by omega) hfd]
        exact h1
    · subst hc
      rcases hh with ⟨_, hd, hz⟩ | ⟨hg, _⟩
      · have hI : lowI 0 u d = none := by
          unfold lowI
          rw [if_neg (by decide)]
        have e : lowF 0 u d = (u.fdiv (lowC u d), d.fdiv (lowC u d)) := by
          unfold lowF
          rw [hI]
        have hcz : ∀ i : Int, CDivZ i (lowC u d) := fun i => divZ_of (b := 8500) (lowC_ne hd) (Nat.lt_of_le_of_lt (lowC_le hd) hz) (by decide) (by decide)
        rw [e] at q
        walk_at "go"
        refine ⟨u, d, rfl, ?_⟩
        walk_at "go"
        refine w_ite (fun hn => ?_) (fun hn => ?_)
        · walk_at "go"
          have ec : lowC u d = -(Int.gcd u d : Int) := by
            unfold lowC
            rw [if_pos hn, Int.mul_neg, Int.mul_one]
          rw [← ec]
          refine w_I (hcz _) ?_
          walk_at "go"
          refine w_I (hcz _) ?_
          walk_at "go"
          refine w_new (by simp) fun p1 H1 hp1 s1 h1 => ?_
          exact q p1 H1 hp1 s1 h1
        · walk_at "go"
          have ec : lowC u d = (Int.gcd u d : Int) := by
            unfold lowC
            rw [if_neg hn, Int.mul_one]
          rw [← ec]
          refine w_I (hcz _) ?_
          walk_at "go"
          refine w_I (hcz _) ?_
          walk_at "go"
          refine w_new (by simp) fun p1 H1 hp1 s1 h1 => ?_
          exact q p1 H1 hp1 s1 h1
      · exact absurd hg (by decide)
theorem ok_whole_row {f : Addr} {fd : FuncData} (F : FnP K "whole_row" s_whole_row f fd)
    {f_common_divisor : Addr} {fd_common_divisor : FuncData} (F_common_divisor : FnP K "common_divisor" s_common_divisor f_common_divisor fd_common_divisor) (b_common_divisor : Binds K fd_common_divisor ["a", "b"] []) (g_common_divisor : mg "common_divisor" = some (.ref f_common_divisor)) (G_common_divisor : FnOk P w K mg base CX0 1 f_common_divisor fd_common_divisor ["a", "b"] (sp_common_divisor K)) :
    FnOk P w K mg base CX0 2 f fd ["row"] (sp_whole_row K) := by
  refine F.ok sc_whole_row (fun vs H Q E h => ?_) (fun cdv A outer s H vs Q E hr h => ?_)
  · obtain ⟨v, r, g, k, rfl, hv, hok, hk0, hkl, hk, hlr, q⟩ := h
    rfl
  · obtain ⟨v, r, g, k, rfl, hv, hok, hk0, hkl, hk, hlr, q⟩ := h
    refine ⟨_, PSs.nox (pss_cons (ps_set (i := 1) sc_whole_row.nd rfl (.inr rfl) pe_int)
        (pss_cons (ps_for PassesOwn.never rfl (pi_or (pi_list (pv 0)) (pi_tup (pv 0))) (pg_name (i := 2) sc_whole_row.nd rfl (.inl rfl)) (pss_one (ps_set (i := 1) sc_whole_row.nd rfl (.inr rfl) (pe_op op_mulW (pe_op op_fdivZ (pv 1) (pe_call G_common_divisor hr (by rfl) g_common_divisor F_common_divisor.kp b_common_divisor .nil pass0 (pa_cons (pv 1) (pa_cons (pe_ix ix_tup (pv 2) pe_int (fun _ _ => rfl)) pa_nil)))) (pe_ix ix_tup (pv 2) pe_int (fun _ _ => rfl))))))
        (pss_one (ps_ret (pe_tup (pa_cons (pe_lc (own := [("x", 2)]) (g := gName 2) (tt := tYes) (by rfl) sc_whole_row.nd (pi_or (pi_list (pv 0)) (pi_tup (pv 0))) (blkOk_by (own := [("x", 2)]) (N := ["row", "bottom", "x"]) (sc := defScope s_whole_row) (by decide +kernel)) (fun _ _ _ _ _ => (pg_name (i := 2) sc_whole_row.nd rfl (.inl rfl))) (fun _ _ _ _ _ => pts_nil) (fun _ _ _ _ _ => (pe_op op_mulW (pe_ix (r := rIxT K) ix_tup (pv 2) pe_int (fun _ _ => rfl)) (pe_op op_fdivZ (pv 1) (pe_ix (r := rIxT K) ix_tup (pv 2) pe_int (fun _ _ => rfl)))))) (pa_cons (pv 1) pa_nil))))))), ?_⟩
    rcases hv with hv | hv
    · obtain ⟨p, xs, rfl, hp, hlx, hx⟩ := hv
      have hpos : ∀ x ∈ r, 0 < x.2 := fun x h => (hok x h).pos
      have hbd : ∀ i, 0 < wrB (r.take i) ∧ (wrB (r.take i)).natAbs ≤ 2 ^ (k * r.length) := fun i => by
        have hsub : ∀ x ∈ r.take i, x ∈ r := fun x h => List.mem_of_mem_take h
        refine ⟨(wrB_spec fun x h => hpos x (hsub x h)).1, Nat.le_trans (wrB_bd (k := k) fun x h => ⟨hpos x (hsub x h), (hok x (hsub x h)).2.1⟩) ?_⟩
        refine Nat.pow_le_pow_right (by decide) (Nat.mul_le_mul_left k ?_)
        rw [List.length_take]
        exact Nat.min_le_right _ _
      walk_at "go"
      refine w_inr ?_
      walk_at "go"
      refine ⟨p, rfl, ⟨xs, SqT.of hp⟩, ?_⟩
      refine for_tup (xs := xs) (fun i σ H' => H' = H ∧ ∃ y, σ = [some (.ref p), some (.int (wrB (r.take i))), y]) ⟨rfl, none, rfl⟩ (fun i σ H' _ hP => by obtain ⟨rfl, _⟩ := hP; exact SqT.of hp) (fun i x σ H' hxi hP => ?_) (fun σ H' hP => ?_)
      · obtain ⟨rfl, y, rfl⟩ := hP
        have hi : i < r.length := by
          have := (List.getElem?_eq_some_iff.mp hxi).1
          omega
        have hri : r[i]? = some r[i] := List.getElem?_eq_getElem hi
        obtain ⟨px, rfl, hpx⟩ := hx i x _ hxi hri
        have hmem := List.getElem_mem hi
        have st := step_le (hbd i).1 (hpos _ hmem) (hbd i).2 (hok _ hmem).2.1
        walk_at "go"
        refine ⟨_, _, rfl, ?_⟩
        refine w_I (divZ_of (b := k) st.2.2.1 st.2.2.2 hk0 (by omega)) ?_
        walk_at "go"
        refine w_I (mulW_le st.2.1 (Nat.le_of_lt (hok _ hmem).2.1) (by omega)) ?_
        walk_at "go"
        refine ⟨rfl, some (.ref px), ?_⟩
        rw [wrB_take hri]
        rfl
      · obtain ⟨rfl, y, rfl⟩ := hP
        have e : r.take xs.length = r := List.take_of_length_le (by omega)
        rw [e]
        have hB := hbd r.length
        rw [List.take_length] at hB
        walk_at "go"
        refine w_inr ?_
        walk_at "go"
        refine ⟨p, rfl, ⟨xs, SqT.of hp⟩, fun D hD => ?_⟩
        refine lc_tup (xs := xs) (fun i H'' => Same H' H'' ∧ H'' D = some (.lst (((wrT r).take i).map V.int))) ⟨Same.updD (Same.refl H') hD, upd_same⟩ (fun i H'' _ hP => SqT.of (hP.1 _ _ hp)) (fun i x H'' hxi hP => ?_) (fun H'' hP => ?_)
        · obtain ⟨sm, hD'⟩ := hP
          have hi : i < r.length := by
            have := (List.getElem?_eq_some_iff.mp hxi).1
            omega
          have hri : r[i]? = some r[i] := List.getElem?_eq_getElem hi
          obtain ⟨px, rfl, hpx⟩ := hx i x _ hxi hri
          have hpx' := sm _ _ hpx
          have hmem := List.getElem_mem hi
          have hp2 := hpos _ hmem
          walk_at "go"
          refine ⟨rfl, ?_⟩
          walk_at "go"
          refine w_I (divZ_of (b := k) (by omega) (hok _ hmem).2.1 hk0 (by omega)) ?_
          have htm : (r[i].1 * (wrB r).fdiv r[i].2) ∈ wrT r := List.mem_map.mpr ⟨_, hmem, rfl⟩
          have hq : ((wrB r).fdiv r[i].2).natAbs ≤ 2 ^ (k * r.length) := by
            obtain ⟨q', e'⟩ := (wrB_spec hpos).2.1 _ hmem
            have f1 : (wrB r).fdiv r[i].2 = q' := by
              rw [e']
              exact Int.mul_fdiv_cancel_left _ (by omega)
            rw [f1]
            have h2 := natAbs_fac (c := r[i].2) (q := q') (by omega)
            rw [← e'] at h2
            exact Nat.le_trans h2 hB.2
          refine w_I (mulW_le (Nat.le_of_lt (hok _ hmem).1) hq (by omega)) ?_
          refine ⟨_, hD', ?_, Same.updD sm hD, ?_⟩
          · rw [List.length_map, List.length_take]
            exact small1000 (by unfold wrT; rw [List.length_map]; omega)
          · have gz : (wrT r)[i]? = some (r[i].1 * (wrB r).fdiv r[i].2) := by
              unfold wrT
              rw [List.getElem?_map, hri]
              rfl
            rw [upd_same, List.take_add_one, gz, List.map_append]
            rfl
        · obtain ⟨sm, hD'⟩ := hP
          have e2 : (wrT r).take xs.length = wrT r := List.take_of_length_le (by unfold wrT; rw [List.length_map]; omega)
          rw [e2] at hD'
          walk_at "go"
          refine w_new (by simp) fun p1 H1 hp1 s1 h1 => ?_
          exact q p1 D _ (sm.trans s1) hD h1 (s1 _ _ hD')
    · obtain ⟨p, xs, rfl, hp, hlx, hx⟩ := hv
      have hpos : ∀ x ∈ r, 0 < x.2 := fun x h => (hok x h).pos
      have hbd : ∀ i, 0 < wrB (r.take i) ∧ (wrB (r.take i)).natAbs ≤ 2 ^ (k * r.length) := fun i => by
        have hsub : ∀ x ∈ r.take i, x ∈ r := fun x h => List.mem_of_mem_take h
        refine ⟨(wrB_spec fun x h => hpos x (hsub x h)).1, Nat.le_trans (wrB_bd (k := k) fun x h => ⟨hpos x (hsub x h), (hok x (hsub x h)).2.1⟩) ?_⟩
        refine Nat.pow_le_pow_right (by decide) (Nat.mul_le_mul_left k ?_)
        rw [List.length_take]
        exact Nat.min_le_right _ _
      walk_at "go"
      refine w_inl ?_
      walk_at "go"
      refine ⟨p, rfl, ⟨xs, SqL.of hp⟩, ?_⟩
      refine for_list (xs := xs) (fun i σ H' => H' = H ∧ ∃ y, σ = [some (.ref p), some (.int (wrB (r.take i))), y]) ⟨rfl, none, rfl⟩ (fun i σ H' _ hP => by obtain ⟨rfl, _⟩ := hP; exact SqL.of hp) (fun i x σ H' hxi hP => ?_) (fun σ H' hP => ?_)
      · obtain ⟨rfl, y, rfl⟩ := hP
        have hi : i < r.length := by
          have := (List.getElem?_eq_some_iff.mp hxi).1
          omega
        have hri : r[i]? = some r[i] := List.getElem?_eq_getElem hi
        obtain ⟨px, rfl, hpx⟩ := hx i x _ hxi hri
        have hmem := List.getElem_mem hi
        have st := step_le (hbd i).1 (hpos _ hmem) (hbd i).2 (hok _ hmem).2.1
        walk_at "go"
        refine ⟨_, _, rfl, ?_⟩
        refine w_I (divZ_of (b := k) st.2.2.1 st.2.2.2 hk0 (by omega)) ?_
        walk_at "go"
        refine w_I (mulW_le st.2.1 (Nat.le_of_lt (hok _ hmem).2.1) (by omega)) ?_
        walk_at "go"
        refine ⟨rfl, some (.ref px), ?_⟩
        rw [wrB_take hri]
        rfl
      · obtain ⟨rfl, y, rfl⟩ := hP
        have e : r.take xs.length = r := List.take_of_length_le (by omega)
        rw [e]
        have hB := hbd r.length
        rw [List.take_length] at hB
        walk_at "go"
        refine w_inl ?_
        walk_at "go"
        refine ⟨p, rfl, ⟨xs, SqL.of hp⟩, fun D hD => ?_⟩
        refine lc_list (xs := xs) (fun i H'' => Same H' H'' ∧ H'' D = some (.lst (((wrT r).take i).map V.int))) ⟨Same.updD (Same.refl H') hD, upd_same⟩ (fun i H'' _ hP => SqL.of (hP.1 _ _ hp)) (fun i x H'' hxi hP => ?_) (fun H'' hP => ?_)
        · obtain ⟨sm, hD'⟩ := hP
          have hi : i < r.length := by
            have := (List.getElem?_eq_some_iff.mp hxi).1
            omega
          have hri : r[i]? = some r[i] := List.getElem?_eq_getElem hi
          obtain ⟨px, rfl, hpx⟩ := hx i x _ hxi hri
          have hpx' := sm _ _ hpx
          have hmem := List.getElem_mem hi
          have hp2 := hpos _ hmem
          walk_at "go"
          refine ⟨rfl, ?_⟩
          walk_at "go"
          refine w_I (divZ_of (b := k) (by omega) (hok _ hmem).2.1 hk0 (by omega)) ?_
          have htm : (r[i].1 * (wrB r).fdiv r[i].2) ∈ wrT r := List.mem_map.mpr ⟨_, hmem, rfl⟩
          have hq : ((wrB r).fdiv r[i].2).natAbs ≤ 2 ^ (k * r.length) := by
            obtain ⟨q', e'⟩ := (wrB_spec hpos).2.1 _ hmem
            have f1 : (wrB r).fdiv r[i].2 = q' := by
              rw [e']
              exact Int.mul_fdiv_cancel_left _ (by omega)
            rw [f1]
            have h2 := natAbs_fac (c := r[i].2) (q := q') (by omega)
            rw [← e'] at h2
            exact Nat.le_trans h2 hB.2
          refine w_I (mulW_le (Nat.le_of_lt (hok _ hmem).1) hq (by omega)) ?_
          refine ⟨_, hD', ?_, Same.updD sm hD, ?_⟩
          · rw [List.length_map, List.length_take]
            exact small1000 (by unfold wrT; rw [List.length_map]; omega)
          · have gz : (wrT r)[i]? = some (r[i].1 * (wrB r).fdiv r[i].2) := by
              unfold wrT
              rw [List.getElem?_map, hri]
              rfl
            rw [upd_same, List.take_add_one, gz, List.map_append]
            rfl
        · obtain ⟨sm, hD'⟩ := hP
          have e2 : (wrT r).take xs.length = wrT r := List.take_of_length_le (by unfold wrT; rw [List.length_map]; omega)
          rw [e2] at hD'
          walk_at "go"
          refine w_new (by simp) fun p1 H1 hp1 s1 h1 => ?_
          exact q p1 D _ (sm.trans s1) hD h1 (s1 _ _ hD')
theorem ok_whole_determinant {f : Addr} {fd : FuncData} (F : FnP K "whole_determinant" s_whole_determinant f fd)
    {f_head_place : Addr} {fd_head_place : FuncData} (F_head_place : FnP K "head_place" s_head_place f_head_place fd_head_place) (b_head_place : Binds K fd_head_place ["rows", "begin", "at"] []) (g_head_place : mg "head_place" = some (.ref f_head_place)) (G_head_place : FnOk P w K mg base CX0 1 f_head_place fd_head_place ["rows", "begin", "at"] (sp_head_place K))
    {f_smaller_row : Addr} {fd_smaller_row : FuncData} (F_smaller_row : FnP K "smaller_row" s_smaller_row f_smaller_row fd_smaller_row) (b_smaller_row : Binds K fd_smaller_row ["row", "head", "last"] []) (g_smaller_row : mg "smaller_row" = some (.ref f_smaller_row)) (G_smaller_row : FnOk P w K mg base CX0 1 f_smaller_row fd_smaller_row ["row", "head", "last"] (sp_smaller_row K)) (m_len : mg "len" = none) :
    FnOk P w K mg base CX0 2 f fd ["rows"] (sp_whole_determinant K) := by
  refine F.ok sc_whole_determinant (fun vs H Q E h => ?_) (fun cdv A outer s H vs Q E hr h => ?_)
  · obtain ⟨v, orig, n, A, k, rfl, hv, hon, hn1, hn, hrow, hA, hk, hk0, hk4, q⟩ := h
    rfl
  · obtain ⟨v, orig, n, A, k, rfl, hv, hon, hn1, hn, hrow, hA, hk, hk0, hk4, q⟩ := h
    refine ⟨_, PSs.nox (pss_cons (ps_set (i := 1) sc_whole_determinant.nd rfl (.inl rfl) pe_int)
        (pss_cons (ps_set (i := 2) sc_whole_determinant.nd rfl (.inr rfl) pe_int)
        (pss_cons (ps_while PassesOwn.never (pt_cmpR op_gt (pe_callB call_len_seq (by rfl) m_len (by decide +kernel) (pa_cons (pv 0) pa_nil)) pe_int (nomark _)) (pss_cons (ps_set (i := 3) sc_whole_determinant.nd rfl (.inl rfl) (pe_call G_head_place hr (by rfl) g_head_place F_head_place.kp b_head_place .nil pass0 (pa_cons (pv 0) (pa_cons pe_int (pa_cons pe_int pa_nil)))))
        (pss_cons (ps_if (pt_cmpR op_isN (pv 3) pe_non (nomark _)) (pss_one (ps_ret pe_int)) pss_nil)
        (pss_cons (ps_if (pt_cmpR op_eq (pe_op op_modN (pv 3) pe_int) pe_int (nomark _)) (pss_one (ps_set (i := 1) sc_whole_determinant.nd rfl (.inl rfl) (pe_un un_neg (pv 1)))) pss_nil)
        (pss_cons (ps_set (i := 4) sc_whole_determinant.nd rfl (.inr rfl) (pe_ix ix_list (pv 0) (pv 3) (fun _ _ => rfl)))
        (pss_cons (ps_setLc (i := 0) (own := [("row", 5)]) (g := gName 5) (tt := tYes) (by rfl) sc_whole_determinant.nd rfl rfl (sw_true rfl rfl rfl (by decide +kernel)) (pi_list (pe_op op_cat (pe_slice sl_list (pv 0) po_none (po_some (pv 3))) (pe_slice sl_list (pv 0) (po_some (pe_op op_add (pv 3) pe_int)) po_none))) (blkOk_by (own := [("row", 5)]) (N := ["rows", "sign", "last", "place", "head", "row"]) (sc := defScope s_whole_determinant) (by decide +kernel)) (fun _ _ _ _ _ => (pg_name (i := 5) sc_whole_determinant.nd rfl (.inl rfl))) (fun _ _ _ _ _ => pts_nil) (fun _ _ _ _ _ => (pe_call G_smaller_row hr (by rfl) g_smaller_row F_smaller_row.kp b_smaller_row .nil pass0 (pa_cons (pv 5) (pa_cons (pv 4) (pa_cons (pv 2) pa_nil))))))
        (pss_one (ps_set (i := 2) sc_whole_determinant.nd rfl (.inr rfl) (pe_ix ix_list (pv 4) pe_int (fun _ _ => rfl))))))))))
        (pss_one (ps_ret (pe_op op_mulW (pv 1) (pe_ix ix_list (pe_ix ix_list (pv 0) pe_int (fun _ _ => rfl)) pe_int (fun _ _ => rfl)))))))), ?_⟩
    walk_at "go"
    refine while_by (fun σ H' => ∃ (j : Nat) (rv : V) (rows : List (List Int)) (sign last : Int), (∃ y3 y4 y5, σ = [some rv, some (.int sign), some (.int last), y3, y4, y5]) ∧ Same H H' ∧ ILs H' rv rows ∧ rows.length + j = n ∧ j < n ∧ (sign = 1 ∨ sign = -1) ∧ Bst A n j orig rows sign last) (fun σ H' => match σ with | some (.ref p) :: _ => (match H' p with | some (.lst xs) => xs.length | _ => 0) | _ => 0) ⟨0, v, orig, 1, 1, ⟨_, _, _, rfl⟩, Same.refl _, hv, by omega, by omega, .inl rfl, Bst.start hon hrow⟩ (fun σ H' hP => ?_) (fun σ H' Q1 Q2 f h => ?_)
    · obtain ⟨j, rv, rows, sign, last, ⟨y3, y4, y5, rfl⟩, sm, hIL, hlj, hj, hsg, bst⟩ := hP
      obtain ⟨p, xs, rfl, hp, hacc⟩ := hIL
      obtain ⟨hbr, hbl⟩ := bst.bound hA hj
      have hb' : ∀ r ∈ rows, ∀ x, (gt r x).natAbs < 2 ^ k := fun r hr x => Nat.lt_of_le_of_lt ((hbr r hr).2 x) hk
      have hlb : last.natAbs < 2 ^ k := Nat.lt_of_le_of_lt hbl hk
      walk_at "go"
      refine ⟨p, xs, rfl, .inl (SqL.of hp), ?_⟩
      walk_at "go"
      have hxl : xs.length = rows.length := hacc.1
      refine w_ite (fun hc => ?_) (fun hc => ?_)
      · walk_at "go"
        refine ⟨.ref p, rows, 0, 0, rfl, ⟨p, xs, rfl, hp, hacc⟩, fun r hr => by rw [(hbr r hr).1]; omega, by omega, by decide, fun hz => ?_, fun place head _ hh hne => ?_⟩
        · walk_at "go"
          refine ⟨rfl, ?_⟩
          walk_at "go"
          refine w_ite (fun _ => ?_) (fun hc => absurd rfl hc)
          walk_at "go"
          have e := bst.none hj fun i r hr => hz i r (Nat.zero_le _) hr
          have q' := q _ sm
          rw [e] at q'
          exact q'
        · have hpl := (List.getElem?_eq_some_iff.mp hh).1
          have hmem := List.mem_of_getElem? hh
          have gx : xs[place]? = some (xs[place]'(by omega)) := List.getElem?_eq_getElem _
          obtain ⟨ph, eph, hph⟩ := hacc.2 place _ _ gx hh
          rw [eph] at gx
          have step := bst.step (by omega) hh hne
          have hsg' : ∀ (b : Bool), (sg place = -1 ∧ b = true) ∨ (sg place = 1 ∧ b = false) → (if b = true then -sign else sign) = sign * sg place := fun b hb => by
            rcases hb with ⟨e1, e2⟩ | ⟨e1, e2⟩
            · rw [e1, e2, if_pos rfl]
              omega
            · rw [e1, e2, if_neg Bool.false_ne_true]
              omega
          walk_at "go"
          refine ⟨rfl, ?_⟩
          walk_at "go"
          refine w_ite (fun hc => by cases hc) (fun _ => ?_)
          walk_at "go"
          refine w_I (by decide) ?_
          walk_at "go"
          have go : ∀ (sign' : Int), sign' = sign * sg place → (sign' = 1 ∨ sign' = -1) → Bst A n (j + 1) orig ((rows.eraseIdx place).map (smF last head)) sign' (gt head 0) := fun s e _ => by rw [e]; exact step
          refine w_ite (fun hpo => ?_) (fun hpo => ?_)
          · have esg : sg place = -1 := by
              unfold sg
              rw [if_neg]
              rw [fmod_pos _ (by decide)] at hpo
              omega
            have hb2 := go (-sign) (by rw [esg]; omega) (by omega)
            have hs2 : -sign = 1 ∨ -sign = -1 := by omega
            walk_at "go"
            refine w_ixL hp (atI_nat gx) ?_
            have hph' := hph
            walk_at "go"
            refine w_slL hp fun q1 H1 hq1 s1 h1 => ?_
            rw [cut_take] at h1
            walk_at "go"
            refine w_slL (s1 _ _ hp) fun q2 H2 hq2 s2 h2 => ?_
            rw [show ((place : Int) + 1) = ((place + 1 : Nat) : Int) by omega, cut_drop] at h2
            refine w_cat (s2 _ _ h1) h2 (by rw [List.length_take, List.length_drop]; omega) ?_
            refine w_newO fun q3 H3 hq3 s3 h3 => ?_
            rw [erase_cut] at h3
            have s03 := s1.trans (s2.trans s3)
            have hacc3 : Acc IL H3 (xs.eraseIdx place) (rows.eraseIdx place) (rows.eraseIdx place).length := by
              have a1 := acc_cat (acc_take (k := place) hacc rfl) (acc_drop (k := place + 1) hacc rfl)
              rw [erase_cut, erase_cut] at a1
              exact a1.mono fun x a h => IL.sm h s03
            have hel : (rows.eraseIdx place).length = rows.length - 1 := List.length_eraseIdx_of_lt hpl
            walk_at "go"
            refine ⟨q3, rfl, ⟨_, SqL.of h3⟩, fun D hD => ?_⟩
            refine lc_list (xs := xs.eraseIdx place) (fun i H4 => Same H3 H4 ∧ ∃ zs, H4 D = some (.lst zs) ∧ Acc (ILn D) H4 zs ((rows.eraseIdx place).map (smF last head)) i) ⟨Same.updD (Same.refl H3) hD, [], upd_same, Acc.nil⟩ (fun i H4 _ hP => SqL.of (hP.1 _ _ h3)) (fun i x H4 hxi hP => ?_) (fun H4 hP => ?_)
            · obtain ⟨sm4, zs, hD4, hacc4⟩ := hP
              have hi : i < (rows.eraseIdx place).length := by
                have := (List.getElem?_eq_some_iff.mp hxi).1
                rw [hacc3.1] at this
                exact this
              have gr : (rows.eraseIdx place)[i]? = some (rows.eraseIdx place)[i] := List.getElem?_eq_getElem hi
              have hmi : (rows.eraseIdx place)[i] ∈ rows := List.mem_of_mem_eraseIdx (List.getElem_mem hi)
              walk_at "go"
              refine ⟨rfl, ?_⟩
              walk_at "go"
              refine ⟨x, .ref ph, _, head, last, k, rfl, (hacc3.2 i x _ hxi gr).sm sm4, ⟨ph, rfl, sm4 _ _ (s03 _ _ hph)⟩, by rw [(hbr _ hmi).1, (hbr _ hmem).1], by rw [(hbr _ hmi).1]; omega, by rw [(hbr _ hmi).1]; omega, hb' _ hmi, hb' _ hmem, bst.ne, hlb, hk0, hk4, fun p5 H5 s5 h5 hfr => ?_⟩
              have hD5 := s5 _ _ hD4
              have np : p5 ≠ D := fun e => by rw [e, hD4] at hfr; cases hfr
              refine ⟨zs, hD5, small1000 (by rw [hacc4.1]; omega), Same.updD (sm4.trans s5) hD, _, upd_same, ?_⟩
              exact (hacc4.mono fun x a h => (h.sm s5).upd).snoc (a := smF last head (rows.eraseIdx place)[i]) (by rw [List.getElem?_map, gr]; rfl) (ILn.upd ⟨p5, rfl, np, h5⟩)
            · obtain ⟨sm4, zs, hD4, hacc4⟩ := hP
              walk_at "go"
              refine w_ixL (sm4 _ _ (s03 _ _ hph)) (gt_int (j := 0) (by rw [(hbr _ hmem).1]; omega)) ?_
              walk_at "go"
              have hacc5 : Acc IL H4 zs ((rows.eraseIdx place).map (smF last head)) ((rows.eraseIdx place).map (smF last head)).length := by
                rw [List.length_map, ← hacc3.1]
                exact acc_imp hacc4 fun x a h => ILn.il h
              refine ⟨⟨j + 1, .ref D, _, _, _, ⟨_, _, _, rfl⟩, sm.trans (s03.trans sm4), ⟨D, zs, rfl, hD4, hacc5⟩, by rw [List.length_map]; omega, by omega, hs2, hb2⟩, ?_⟩
              show (match H4 D with | some (.lst xs) => xs.length | _ => 0) < (match H' p with | some (.lst xs) => xs.length | _ => 0)
              rw [hD4, hp]
              show zs.length < xs.length
              rw [hacc4.1, hacc3.1]
              omega
          · have esg : sg place = 1 := by
              unfold sg
              rw [if_pos]
              rw [fmod_pos _ (by decide)] at hpo
              omega
            have hb2 := go sign (by rw [esg]; omega) hsg
            have hs2 := hsg
            walk_at "go"
            refine w_ixL hp (atI_nat gx) ?_
            have hph' := hph
            walk_at "go"
            refine w_slL hp fun q1 H1 hq1 s1 h1 => ?_
            rw [cut_take] at h1
            walk_at "go"
            refine w_slL (s1 _ _ hp) fun q2 H2 hq2 s2 h2 => ?_
            rw [show ((place : Int) + 1) = ((place + 1 : Nat) : Int) by omega, cut_drop] at h2
            refine w_cat (s2 _ _ h1) h2 (by rw [List.length_take, List.length_drop]; omega) ?_
            refine w_newO fun q3 H3 hq3 s3 h3 => ?_
            rw [erase_cut] at h3
            have s03 := s1.trans (s2.trans s3)
            have hacc3 : Acc IL H3 (xs.eraseIdx place) (rows.eraseIdx place) (rows.eraseIdx place).length := by
              have a1 := acc_cat (acc_take (k := place) hacc rfl) (acc_drop (k := place + 1) hacc rfl)
              rw [erase_cut, erase_cut] at a1
              exact a1.mono fun x a h => IL.sm h s03
            have hel : (rows.eraseIdx place).length = rows.length - 1 := List.length_eraseIdx_of_lt hpl
            walk_at "go"
            refine ⟨q3, rfl, ⟨_, SqL.of h3⟩, fun D hD => ?_⟩
            refine lc_list (xs := xs.eraseIdx place) (fun i H4 => Same H3 H4 ∧ ∃ zs, H4 D = some (.lst zs) ∧ Acc (ILn D) H4 zs ((rows.eraseIdx place).map (smF last head)) i) ⟨Same.updD (Same.refl H3) hD, [], upd_same, Acc.nil⟩ (fun i H4 _ hP => SqL.of (hP.1 _ _ h3)) (fun i x H4 hxi hP => ?_) (fun H4 hP => ?_)
            · obtain ⟨sm4, zs, hD4, hacc4⟩ := hP
              have hi : i < (rows.eraseIdx place).length := by
                have := (List.getElem?_eq_some_iff.mp hxi).1
                rw [hacc3.1] at this
                exact this
              have gr : (rows.eraseIdx place)[i]? = some (rows.eraseIdx place)[i] := List.getElem?_eq_getElem hi
              have hmi : (rows.eraseIdx place)[i] ∈ rows := List.mem_of_mem_eraseIdx (List.getElem_mem hi)
              walk_at "go"
              refine ⟨rfl, ?_⟩
              walk_at "go"
              refine ⟨x, .ref ph, _, head, last, k, rfl, (hacc3.2 i x _ hxi gr).sm sm4, ⟨ph, rfl, sm4 _ _ (s03 _ _ hph)⟩, by rw [(hbr _ hmi).1, (hbr _ hmem).1], by rw [(hbr _ hmi).1]; omega, by rw [(hbr _ hmi).1]; omega, hb' _ hmi, hb' _ hmem, bst.ne, hlb, hk0, hk4, fun p5 H5 s5 h5 hfr => ?_⟩
              have hD5 := s5 _ _ hD4
              have np : p5 ≠ D := fun e => by rw [e, hD4] at hfr; cases hfr
              refine ⟨zs, hD5, small1000 (by rw [hacc4.1]; omega), Same.updD (sm4.trans s5) hD, _, upd_same, ?_⟩
              exact (hacc4.mono fun x a h => (h.sm s5).upd).snoc (a := smF last head (rows.eraseIdx place)[i]) (by rw [List.getElem?_map, gr]; rfl) (ILn.upd ⟨p5, rfl, np, h5⟩)
            · obtain ⟨sm4, zs, hD4, hacc4⟩ := hP
              walk_at "go"
              refine w_ixL (sm4 _ _ (s03 _ _ hph)) (gt_int (j := 0) (by rw [(hbr _ hmem).1]; omega)) ?_
              walk_at "go"
              have hacc5 : Acc IL H4 zs ((rows.eraseIdx place).map (smF last head)) ((rows.eraseIdx place).map (smF last head)).length := by
                rw [List.length_map, ← hacc3.1]
                exact acc_imp hacc4 fun x a h => ILn.il h
              refine ⟨⟨j + 1, .ref D, _, _, _, ⟨_, _, _, rfl⟩, sm.trans (s03.trans sm4), ⟨D, zs, rfl, hD4, hacc5⟩, by rw [List.length_map]; omega, by omega, hs2, hb2⟩, ?_⟩
              show (match H4 D with | some (.lst xs) => xs.length | _ => 0) < (match H' p with | some (.lst xs) => xs.length | _ => 0)
              rw [hD4, hp]
              show zs.length < xs.length
              rw [hacc4.1, hacc3.1]
              omega
      · have hr1 : rows.length = 1 := by omega
        have g0 : rows[0]? = some (rows[0]'(by omega)) := List.getElem?_eq_getElem _
        have gx0 : xs[0]? = some (xs[0]'(by omega)) := List.getElem?_eq_getElem _
        obtain ⟨p0, e0, hp0⟩ := hacc.2 0 _ _ gx0 g0
        rw [e0] at gx0
        have hm0 := List.mem_of_getElem? g0
        have e := bst.done (by omega) g0
        walk_at "go"
        refine w_ixL hp (atI_nat (j := 0) gx0) ?_
        walk_at "go"
        refine w_ixL hp0 (gt_int (j := 0) (by rw [(hbr _ hm0).1]; omega)) ?_
        walk_at "go"
        refine w_I (wide_mul (a := 1) (b := k) (by rcases hsg with rfl | rfl <;> decide) (hb' _ hm0 0) (by decide) hk0 (by omega)) ?_
        walk_at "go"
        rw [e]
        exact q _ sm
    · obtain ⟨v1, hv1, p', ys, e1, e2, i, j, e3, e4, k, e5, h2⟩ := h
      exact ⟨v1, hv1, p', ys, e1, e2, i, j, e3, e4, k, e5, f _ _ h2⟩
theorem ok_plain {f : Addr} {fd : FuncData} (F : FnP K "plain" s_plain f fd)
    {f_common_divisor : Addr} {fd_common_divisor : FuncData} (F_common_divisor : FnP K "common_divisor" s_common_divisor f_common_divisor fd_common_divisor) (b_common_divisor : Binds K fd_common_divisor ["a", "b"] []) (g_common_divisor : mg "common_divisor" = some (.ref f_common_divisor)) (G_common_divisor : FnOk P w K mg base CX0 1 f_common_divisor fd_common_divisor ["a", "b"] (sp_common_divisor K)) :
    FnOk P w K mg base CX0 2 f fd ["ground", "row"] (sp_plain K) := by
  refine F.ok sc_plain (fun vs H Q E h => ?_) (fun cdv A outer s H vs Q E hr h => ?_)
  · obtain ⟨g, v, r, b, rfl, hg, hv, hb, hb0, hb9, hl, q⟩ := h
    rfl
  · obtain ⟨g, v, r, b, rfl, hg, hv, hb, hb0, hb9, hl, q⟩ := h
    refine ⟨_, PSs.nox (pss_cons (ps_if (pt_cmpR op_ne (pv 0) pe_int (nomark _)) (pss_one (ps_ret (pe_lc (own := [("x", 2)]) (g := gName 2) (tt := tYes) (by rfl) sc_plain.nd (pi_list (pv 1)) (blkOk_by (own := [("x", 2)]) (N := ["ground", "row", "x", "shared"]) (sc := defScope s_plain) (by decide +kernel)) (fun _ _ _ _ _ => (pg_name (i := 2) sc_plain.nd rfl (.inl rfl))) (fun _ _ _ _ _ => pts_nil) (fun _ _ _ _ _ => (pe_op op_modN (pv 2) (pv 0)))))) pss_nil)
        (pss_cons (ps_set (i := 3) sc_plain.nd rfl (.inr rfl) pe_int)
        (pss_cons (ps_for PassesOwn.never rfl (pi_list (pv 1)) (pg_name (i := 2) sc_plain.nd rfl (.inl rfl)) (pss_one (ps_set (i := 3) sc_plain.nd rfl (.inr rfl) (pe_call G_common_divisor hr (by rfl) g_common_divisor F_common_divisor.kp b_common_divisor .nil pass0 (pa_cons (pv 3) (pa_cons (pv 2) pa_nil))))))
        (pss_cons (ps_if (pt_cmpR op_eq (pv 3) pe_int (nomark _)) (pss_one (ps_ret (pv 1))) pss_nil)
        (pss_one (ps_ret (pe_lc (own := [("x", 2)]) (g := gName 2) (tt := tYes) (by rfl) sc_plain.nd (pi_list (pv 1)) (blkOk_by (own := [("x", 2)]) (N := ["ground", "row", "x", "shared"]) (sc := defScope s_plain) (by decide +kernel)) (fun _ _ _ _ _ => (pg_name (i := 2) sc_plain.nd rfl (.inl rfl))) (fun _ _ _ _ _ => pts_nil) (fun _ _ _ _ _ => (pe_op op_fdivZ (pv 2) (pv 3)))))))))), ?_⟩
    obtain ⟨p, rfl, hp⟩ := hv
    walk_at "go"
    refine w_iteN (fun hc => ?_) (fun hc => ?_)
    · walk_at "go"
      refine ⟨p, rfl, ⟨_, SqL.of hp⟩, fun D hD => ?_⟩
      refine lc_list (xs := r.map V.int) (fun i H' => Same H H' ∧ H' D = some (.lst (((r.map fun x => x.fmod g).take i).map V.int))) ⟨Same.updD (Same.refl H) hD, upd_same⟩ (fun i H' _ hP => SqL.of (hP.1 _ _ hp)) (fun i x H' hxi hP => ?_) (fun H' hP => ?_)
      · obtain ⟨sm, hD'⟩ := hP
        have hi : i < r.length := by
          have := (List.getElem?_eq_some_iff.mp hxi).1
          rw [List.length_map] at this
          exact this
        have hx : x = .int r[i] := by
          rw [List.getElem?_map, List.getElem?_eq_getElem hi] at hxi
          exact (Option.some.inj hxi).symm
        subst hx
        walk_at "go"
        refine ⟨rfl, ?_⟩
        walk_at "go"
        refine w_I hc ?_
        refine ⟨_, hD', ?_, Same.updD sm hD, ?_⟩
        · rw [List.length_map, List.length_take]
          exact small1000 (by rw [List.length_map]; omega)
        · rw [upd_same, List.take_add_one, List.getElem?_map, List.getElem?_eq_getElem hi, List.map_append]
          rfl
      · obtain ⟨sm, hD'⟩ := hP
        rw [List.take_of_length_le (by rw [List.length_map, List.length_map]; exact Nat.le_refl _)] at hD'
        walk_at "go"
        refine q D H' sm ?_ (.inr hD)
        have e : plainF g r = r.map fun x => x.fmod g := by unfold plainF; rw [if_pos hc]
        rw [e]
        exact hD'
    · subst hc
      walk_at "go"
      refine ⟨p, rfl, ⟨_, SqL.of hp⟩, ?_⟩
      refine for_list (xs := r.map V.int) (fun i σ H' => H' = H ∧ ∃ y, σ = [some (.int 0), some (.ref p), y, some (.int (gcdL (r.take i)))]) ⟨rfl, none, rfl⟩ (fun i σ H' _ hP => by obtain ⟨rfl, _⟩ := hP; exact SqL.of hp) (fun i x σ H' hxi hP => ?_) (fun σ H' hP => ?_)
      · obtain ⟨rfl, y, rfl⟩ := hP
        have hi : i < r.length := by
          have := (List.getElem?_eq_some_iff.mp hxi).1
          rw [List.length_map] at this
          exact this
        have hx : x = .int r[i] := by
          rw [List.getElem?_map, List.getElem?_eq_getElem hi] at hxi
          exact (Option.some.inj hxi).symm
        subst hx
        walk_at "go"
        refine ⟨_, _, rfl, ?_⟩
        walk_at "go"
        refine ⟨rfl, some (.int r[i]), ?_⟩
        rw [gcdL_take hi]
        rfl
      · obtain ⟨rfl, y, rfl⟩ := hP
        rw [List.take_of_length_le (by rw [List.length_map]; exact Nat.le_refl _)]
        walk_at "go"
        refine w_ite (fun hc => ?_) (fun hc => ?_)
        · walk_at "go"
          refine q p H' (Same.refl _) ?_ (.inl rfl)
          have e : plainF 0 r = r := by unfold plainF; rw [if_neg (by decide), if_pos hc]
          rw [e]
          exact hp
        · walk_at "go"
          refine ⟨p, rfl, ⟨_, SqL.of hp⟩, fun D hD => ?_⟩
          refine lc_list (xs := r.map V.int) (fun i H'' => Same H' H'' ∧ H'' D = some (.lst (((r.map fun x => x.fdiv (gcdL r)).take i).map V.int))) ⟨Same.updD (Same.refl H') hD, upd_same⟩ (fun i H'' _ hP => SqL.of (hP.1 _ _ hp)) (fun i x H'' hxi hP => ?_) (fun H'' hP => ?_)
          · obtain ⟨sm, hD'⟩ := hP
            have hi : i < r.length := by
              have := (List.getElem?_eq_some_iff.mp hxi).1
              rw [List.length_map] at this
              exact this
            have hx : x = .int r[i] := by
              rw [List.getElem?_map, List.getElem?_eq_getElem hi] at hxi
              exact (Option.some.inj hxi).symm
            subst hx
            walk_at "go"
            refine ⟨rfl, ?_⟩
            walk_at "go"
            refine w_I (divZ_of hc (gcdL_le hc (hb rfl)) hb0 hb9) ?_
            refine ⟨_, hD', ?_, Same.updD sm hD, ?_⟩
            · rw [List.length_map, List.length_take]
              exact small1000 (by rw [List.length_map]; omega)
            · rw [upd_same, List.take_add_one, List.getElem?_map, List.getElem?_eq_getElem hi, List.map_append]
              rfl
          · obtain ⟨sm, hD'⟩ := hP
            rw [List.take_of_length_le (by rw [List.length_map, List.length_map]; exact Nat.le_refl _)] at hD'
            walk_at "go"
            refine q D H'' sm ?_ (.inr hD)
            have e : plainF 0 r = r.map fun x => x.fdiv (gcdL r) := by unfold plainF; rw [if_neg (by decide), if_neg hc]
            rw [e]
            exact hD'
theorem ok_mirrored {f : Addr} {fd : FuncData} (F : FnP K "mirrored" s_mirrored f fd)
    {f_dot : Addr} {fd_dot : FuncData} (F_dot : FnP K "dot" s_dot f_dot fd_dot) (b_dot : Binds K fd_dot ["wholes", "others"] []) (g_dot : mg "dot" = some (.ref f_dot)) (G_dot : FnOk P w K mg base CX0 1 f_dot fd_dot ["wholes", "others"] (sp_dot K)) (m_zip : mg "zip" = none) :
    FnOk P w K mg base CX0 2 f fd ["line", "by", "led", "worth"] (sp_mirrored K) := by
  refine F.ok sc_mirrored (fun vs H Q E h => ?_) (fun cdv A outer s H vs Q E hr h => ?_)
  · obtain ⟨a, b, c, ls, bs, es, w, m, P, A, E, U, rfl, ha, hb, hc, hla, hlb, hlc, hm, bl, bb, be, bw, hP, hA, hE, hU, q⟩ := h
    rfl
  · obtain ⟨a, b, c, ls, bs, es, w, m, P, A, E, U, rfl, ha, hb, hc, hla, hlb, hlc, hm, bl, bb, be, bw, hP, hA, hE, hU, q⟩ := h
    refine ⟨_, PSs.nox (pss_cons (ps_set (i := 4) sc_mirrored.nd rfl (.inr rfl) (pe_op op_mulW pe_int (pe_call G_dot hr (by rfl) g_dot F_dot.kp b_dot .nil pass0 (pa_cons (pv 0) (pa_cons (pv 2) pa_nil)))))
        (pss_one (ps_ret (pe_lc (own := [("x", 5), ("y", 6)]) (g := gTup K 2 (gCons (gName 5) (gCons (gName 6) (gNil)))) (tt := tYes) (by rfl) sc_mirrored.nd (RZ.pi_zipA (by rfl) m_zip (pa_cons (pv 0) (pa_cons (pv 1) pa_nil))) (blkOk_by (own := [("x", 5), ("y", 6)]) (N := ["line", "by", "led", "worth", "twice", "x", "y"]) (sc := defScope s_mirrored) (by decide +kernel)) (fun _ _ _ _ _ => (pg_tup rfl (pgs_cons (pg_name (i := 5) sc_mirrored.nd rfl (.inl rfl)) (pgs_cons (pg_name (i := 6) sc_mirrored.nd rfl (.inl rfl)) pgs_nil)))) (fun _ _ _ _ _ => pts_nil) (fun _ _ _ _ _ => (pe_op op_sub (pe_op op_mulW (pv 5) (pv 3)) (pe_op op_mulW (pv 4) (pv 6)))))))), ?_⟩
    have bd : (dotF ls es).natAbs ≤ 2 ^ (7 + (P + E)) := Nat.le_trans (dot_ab hla hlc bl be) (pw_mul (show m ≤ 2 ^ 7 by omega) (by rw [← Nat.pow_add]; exact Nat.le_refl _))
    have bt : (2 * dotF ls es).natAbs ≤ 2 ^ (1 + (7 + (P + E))) := pw_abs (show (2 : Int).natAbs ≤ 2 ^ 1 by decide) bd
    walk_at "go"
    refine ⟨a, c, ls, es, rfl, ha, hc, by omega, by omega, fun t h => pw_le (bl t h) hP, fun t h => pw_le (be t h) hE, fun H1 s1 => ?_⟩
    refine w_I (mulW_le (k := 1) (by decide) bd (by omega)) ?_
    walk_at "go"
    refine ⟨a, b, _, _, rfl, .inl ⟨SqL.of (s1 _ _ ha), SqL.of (s1 _ _ hb), fun D hD => ?_⟩⟩
    refine lc_it (walk_zip (xs := ls.map V.int) (ys := bs.map V.int) (n := m) (by rw [List.length_map, List.length_map]; omega)) (fun i H' => Same H1 H' ∧ H' D = some (.lst (((mirdF ls bs w (2 * dotF ls es)).take i).map V.int))) ⟨Same.updD (Same.refl H1) hD, upd_same⟩ (fun i H' _ hP => ⟨SqL.of (hP.1 _ _ (s1 _ _ ha)), SqL.of (hP.1 _ _ (s1 _ _ hb))⟩) (fun i v H1 H2 hi hP hY => ?_) (fun H' hP => ?_)
    · obtain ⟨sm, hD'⟩ := hP
      obtain ⟨T, u, v', rfl, hT, rfl, hu, hv⟩ := hY
      have hi1 : i < ls.length := by omega
      have hi2 : i < bs.length := by omega
      have g1 : (ls.map V.int)[i]? = some (.int ls[i]) := by rw [List.getElem?_map, List.getElem?_eq_getElem hi1]; rfl
      have g2 : (bs.map V.int)[i]? = some (.int bs[i]) := by rw [List.getElem?_map, List.getElem?_eq_getElem hi2]; rfl
      cases Option.some.inj (hu.symm.trans g1)
      cases Option.some.inj (hv.symm.trans g2)
      have s2 := same_upd (o := .tup [V.int ls[i], V.int bs[i]]) hT
      have hTT : (upd H1 T (.tup [V.int ls[i], V.int bs[i]])) T = some (.tup [V.int ls[i], V.int bs[i]]) := upd_same
      generalize upd H1 T (.tup [V.int ls[i], V.int bs[i]]) = H2 at s2 hTT ⊢
      walk_at "go"
      refine ⟨rfl, ?_⟩
      walk_at "go"
      refine w_I (mulW_le (bl _ (List.getElem_mem hi1)) bw (by omega)) ?_
      walk_at "go"
      refine w_I (mulW_le bt (bb _ (List.getElem_mem hi2)) (by omega)) ?_
      walk_at "go"
      refine ⟨_, s2 _ _ hD', ?_, Same.updD (sm.trans s2) hD, ?_⟩
      · rw [List.length_map, List.length_take]
        exact small1000 (by unfold mirdF; rw [List.length_zipWith]; omega)
      · have gz : (mirdF ls bs w (2 * dotF ls es))[i]? = some (ls[i] * w - 2 * dotF ls es * bs[i]) := by
          unfold mirdF
          rw [List.getElem?_zipWith, List.getElem?_eq_getElem hi1, List.getElem?_eq_getElem hi2]
        rw [upd_same, List.take_add_one, gz, List.map_append]
        rfl
    · obtain ⟨sm, hD'⟩ := hP
      have e2 : (mirdF ls bs w (2 * dotF ls es)).take m = mirdF ls bs w (2 * dotF ls es) := List.take_of_length_le (by unfold mirdF; rw [List.length_zipWith]; omega)
      rw [e2] at hD'
      exact q D _ (s1.trans sm) (s1.free hD) hD'
theorem ok__law_mixed {f : Addr} {fd : FuncData} (F : FnP K "_law_mixed" s__law_mixed f fd)
    {f__law_take : Addr} {fd__law_take : FuncData} (F__law_take : FnP K "_law_take" s__law_take f__law_take fd__law_take) (b__law_take : Binds K fd__law_take ["_law_bag_here", "_law_many"] []) (g__law_take : mg "_law_take" = some (.ref f__law_take)) (G__law_take : FnOk P w K mg base CX0 1 f__law_take fd__law_take ["_law_bag_here", "_law_many"] (sp__law_take K)) (m_list : mg "list" = none) (m_len : mg "len" = none) :
    FnOk P w K mg base CX0 2 f fd ["_law_bag_here", "_law_row_here"] (sp__law_mixed K) := by
  refine F.ok sc__law_mixed (fun vs H Q E h => ?_) (fun cdv A outer s H vs Q E hr h => ?_)
  · obtain ⟨b, p, xs, rfl, hb, hp, hpb, hl, q⟩ := h
    rfl
  · obtain ⟨b, p, xs, rfl, hb, hp, hpb, hl, q⟩ := h
    refine ⟨_, PSs.nox (pss_cons (ps_set (i := 2) sc__law_mixed.nd rfl (.inr rfl) (pe_callTy call_list_of (by rfl) m_list (by decide +kernel) (pa_cons (pv 1) pa_nil)))
        (pss_one (ps_ret (pe_lc (own := [("_law_thing", 3)]) (g := gName 3) (tt := tYes) (by rfl) sc__law_mixed.nd (pi_list (pv 1)) (blkOk_by (own := [("_law_thing", 3)]) (N := ["_law_bag_here", "_law_row_here", "_law_rest", "_law_thing"]) (sc := defScope s__law_mixed) (by decide +kernel)) (fun _ _ _ _ _ => (pg_name (i := 3) sc__law_mixed.nd rfl (.inl rfl))) (fun _ _ _ _ _ => pts_nil) (fun _ _ _ _ _ => (pe_bmK (K := K) (r := rPopAt) rfl PySem.F.plainAttrs_list PySem.F.slot_list_pop PySem.F.type_list_pop mt_popAt (pv 2) (pa_cons (pe_call G__law_take hr (by rfl) g__law_take F__law_take.kp b__law_take .nil pass0 (pa_cons (pv 0) (pa_cons (pe_callB (r := fun xs H Q => ∃ p ys, xs = [V.ref p] ∧ (SqL K H p ys ∨ SqT K H p ys) ∧ Q (V.int ((ys.length : Nat) : Int)) H) call_len_seq (by rfl) m_len (by decide +kernel) (pa_cons (pv 2) pa_nil)) pa_nil))) pa_nil))))))), ?_⟩
    walk_at "go"
    refine ⟨_, _, rfl, .inl (SqL.of hp), fun R hR => ?_⟩
    have s1 := same_upd (o := HO.lst xs) hR
    have h1 : (upd H R (.lst xs)) R = some (.lst xs) := upd_same
    generalize upd H R (.lst xs) = H1 at s1 h1 ⊢
    have nR := bag_ne hb hR
    walk_at "go"
    refine ⟨p, rfl, ⟨xs, SqL.of (s1 _ _ hp)⟩, fun D hD => ?_⟩
    have hD0 : H D = none := s1.free hD
    have nD := bag_ne hb hD0
    have nRD : R ≠ D := fresh_of h1 hD
    refine lc_list (xs := xs) (fun i H' => Mv b H H' ∧ Bag H' b ∧ ∃ rest ys : List V, H' R = some (.lst rest) ∧ H' D = some (.lst ys) ∧ ys.length = i ∧ rest.length + i = xs.length ∧ ∀ y, y ∈ xs ↔ y ∈ ys ∨ y ∈ rest) ⟨(Mv.same s1).updD hD0, (hb.same s1).upd nD, xs, [], by rw [upd_ne nRD]; exact h1, upd_same, rfl, rfl, fun y => ⟨fun z => .inr z, fun z => z.elim (fun w => nomatch w) id⟩⟩ (fun i H' _ hP => SqL.of (hP.1 _ _ hpb hp)) (fun i x H' hxi hP => ?_) (fun H' hP => ?_)
    · obtain ⟨mv, hbi, rest, ys, hR', hD', hly, hlr, hmem⟩ := hP
      have hi : i < xs.length := (List.getElem?_eq_some_iff.mp hxi).1
      walk_at "go"
      refine ⟨rfl, ?_⟩
      walk_at "go"
      refine ⟨.inl ⟨rfl, _, SqL.of hR'⟩, ?_⟩
      walk_at "go"
      refine ⟨R, rest, rfl, .inl (SqL.of hR'), ?_⟩
      walk_at "go"
      refine ⟨b, rest.length, rfl, by omega, by omega, hbi, fun H2 d h20 h21 m2 hb2 => ?_⟩
      have hR2 := m2 _ _ nR hR'
      have hD2 := m2 _ _ nD hD'
      obtain ⟨y, hy⟩ : ∃ y, rest[d.toNat]? = some y := ⟨_, List.getElem?_eq_getElem (by omega)⟩
      refine ⟨R, rest, d, d.toNat, y, rfl, rfl, hR2, by omega, by omega, sq_ix h20 h21, hy, ?_⟩
      have hD3 : (upd H2 R (.lst (rest.eraseIdx d.toNat))) D = some (.lst ys) := by rw [upd_ne (Ne.symm nRD)]; exact hD2
      refine ⟨ys, hD3, small1000 (by omega), (((mv.trans m2).updD hR).updD hD0), ((hb2.upd nR).upd nD), rest.eraseIdx d.toNat, ys ++ [y], by rw [upd_ne nRD, upd_same], upd_same, by rw [List.length_append, hly]; rfl, ?_, fun z => ?_⟩
      · rw [List.length_eraseIdx_of_lt (by omega)]
        omega
      · rw [hmem z, erase_mem hy z, List.mem_append, List.mem_singleton]
        constructor
        · rintro (h | h | h)
          · exact .inl (.inl h)
          · exact .inl (.inr h)
          · exact .inr h
        · rintro ((h | h) | h)
          · exact .inl h
          · exact .inr (.inl h)
          · exact .inr (.inr h)
    · obtain ⟨mv, hbi, rest, ys, hR', hD', hly, hlr, hmem⟩ := hP
      have hr0 : rest = [] := List.length_eq_zero_iff.mp (by omega)
      subst hr0
      walk_at "go"
      exact q D H' ys mv hbi hD' hD0 hly fun y => by
        rw [hmem y]
        exact ⟨.inl, fun z => z.elim id fun w => nomatch w⟩
theorem ok__law_low {f : Addr} {fd : FuncData} (F : FnP K "_law_low" s__law_low f fd)
    {f__law_shared : Addr} {fd__law_shared : FuncData} (F__law_shared : FnP K "_law_shared" s__law_shared f__law_shared fd__law_shared) (b__law_shared : Binds K fd__law_shared ["_law_one", "_law_other"] []) (g__law_shared : mg "_law_shared" = some (.ref f__law_shared)) (G__law_shared : FnOk P w K mg base CX0 1 f__law_shared fd__law_shared ["_law_one", "_law_other"] (sp__law_shared K)) (m_range : mg "range" = none) (m_int : mg "int" = none) :
    FnOk P w K mg base CX0 2 f fd ["_law_g", "_law_up", "_law_down"] (sp__law_low K) := by
  refine F.ok sc__law_low (fun vs H Q E h => ?_) (fun cdv A outer s H vs Q E hr h => ?_)
  · obtain ⟨g, u, d, rfl, hg0, hg, hd, hz, q⟩ := h
    rfl
  · obtain ⟨g, u, d, rfl, hg0, hg, hd, hz, q⟩ := h
    refine ⟨_, PSs.nox (pss_cons (ps_if (pt_cmpR op_gt (pv 0) pe_int (nomark _)) (pss_one (ps_for PassesOwn.never rfl (pi_range1 (by rfl) m_range (pa_cons (pv 0) pa_nil)) (pg_name (i := 3) sc__law_low.nd rfl (.inl rfl)) (pss_one (ps_if (pt_cmpR op_eq (pe_op op_modN (pe_op op_mul (pv 3) (pv 2)) (pv 0)) (pe_op op_modN (pv 1) (pv 0)) (nomark _)) (pss_one (ps_ret (pe_tup (pa_cons (pv 3) (pa_cons pe_int pa_nil))))) pss_nil)))) pss_nil)
        (pss_cons (ps_set (i := 4) sc__law_low.nd rfl (.inl rfl) (pe_op op_mul (pe_call G__law_shared hr (by rfl) g__law_shared F__law_shared.kp b__law_shared .nil pass0 (pa_cons (pv 1) (pa_cons (pv 2) pa_nil))) (pe_ix ix_list (pe_lst (pa_cons pe_int (pa_cons (pe_un un_neg pe_int) pa_nil))) (pe_callTy call_int1 (by rfl) m_int (by decide +kernel) (pa_cons (pe_cmpR op_lt (pv 2) pe_int (nomark _)) pa_nil)) (fun _ _ => rfl))))
        (pss_one (ps_ret (pe_tup (pa_cons (pe_op op_fdivZ (pv 1) (pv 4)) (pa_cons (pe_op op_fdivZ (pv 2) (pv 4)) pa_nil))))))), ?_⟩
    walk_at "go"
    refine w_ite (fun hc => ?a) (fun hc => ?b)
    case' a =>
      walk_at "go"
      refine ⟨by omega, by omega, ?_⟩
      refine for_range (fun i σ H' => H' = H ∧ (∃ y y2, σ = [some (.int g), some (.int u), some (.int d), y, y2]) ∧ ∀ j : Nat, j < i → ¬ ((j : Int) * d).fmod g = u.fmod g) ⟨rfl, ⟨none, none, rfl⟩, fun j hj => absurd hj (Nat.not_lt_zero _)⟩ (fun i σ H' hi hP => ?s1) (fun σ H' hP => ?s2)
    case' s1 =>
      obtain ⟨rfl, ⟨y, y2, rfl⟩, hn⟩ := hP
      walk_at "go"
      rw [Int.zero_add]
      refine w_I (.inl ⟨by omega, by omega⟩) ?_
      walk_at "go"
      refine w_I (by omega) ?_
      walk_at "go"
      refine w_I (by omega) ?_
      walk_at "go"
      refine w_ite (fun hc2 => ?_) (fun hc2 => ?_)
      · walk_at "go"
        refine w_new (by simp) fun p1 H1 hp1 s1 h1 => ?_
        refine q p1 H1 hp1 s1 ?_
        have e : lowF g u d = ((i : Int), 1) := by
          unfold lowF
          rw [lowI_some hi hc2 hn]
        rw [e]
        exact h1
      · walk_at "go"
        refine ⟨rfl, ⟨_, _, rfl⟩, fun j hj => ?_⟩
        by_cases e : j = i
        · rw [e]; exact hc2
        · exact hn j (by omega)
    case' s2 =>
      obtain ⟨rfl, ⟨y, y2, rfl⟩, hn⟩ := hP
      have hI : lowI g u d = none := lowI_none hn
    case' b =>
      have hI : lowI g u d = none := lowI_none (fun j hj => by omega)
    all_goals
      walk_at "go"
      refine ⟨u, d, rfl, ?_⟩
      walk_at "go"
      refine w_new (by simp) fun p1 H1 hp1 s1 h1 => ?_
      walk_at "go"
      refine .inr ⟨_, rfl, ?_⟩
      refine w_ixL h1 (low_sign d) ?_
      refine w_I (.inr (by split <;> decide)) ?_
      walk_at "go"
      refine w_I (low_cb hd hz _) ?_
      walk_at "go"
      refine w_I (low_cb hd hz _) ?_
      walk_at "go"
      refine w_new (by simp) fun p2 H2 hp2 s2 h2 => ?_
      refine q p2 H2 (s1.free hp2) (s1.trans s2) ?_
      have e : lowF g u d = (u.fdiv (lowC u d), d.fdiv (lowC u d)) := by
        unfold lowF
        rw [hI]
      rw [e]
      exact h2
theorem ok__law_ground {f : Addr} {fd : FuncData} (F : FnP K "_law_ground" s__law_ground f fd)
    {f__law_take : Addr} {fd__law_take : FuncData} (F__law_take : FnP K "_law_take" s__law_take f__law_take fd__law_take) (b__law_take : Binds K fd__law_take ["_law_bag_here", "_law_many"] []) (g__law_take : mg "_law_take" = some (.ref f__law_take)) (G__law_take : FnOk P w K mg base CX0 1 f__law_take fd__law_take ["_law_bag_here", "_law_many"] (sp__law_take K)) :
    FnOk P w K mg base CX0 2 f fd ["_law_bag_here"] (sp__law_ground K) := by
  refine F.ok sc__law_ground (fun vs H Q E h => ?_) (fun cdv A outer s H vs Q E hr h => ?_)
  · obtain ⟨b, rfl, hb, q⟩ := h
    rfl
  · obtain ⟨b, rfl, hb, q⟩ := h
    refine ⟨_, PSs.nox (pss_one (ps_ret (pe_ix ix_list (pe_lst (pa_cons pe_int (pa_cons pe_int (pa_cons pe_int (pa_cons pe_int (pa_cons pe_int (pa_cons pe_int (pa_cons pe_int (pa_cons (pe_ix ix_list (pe_lst (pa_cons pe_int (pa_cons pe_int (pa_cons pe_int pa_nil)))) (pe_call G__law_take hr (by rfl) g__law_take F__law_take.kp b__law_take .nil pass0 (pa_cons (pv 0) (pa_cons pe_int pa_nil))) (fun _ _ => rfl)) pa_nil))))))))) (pe_call G__law_take hr (by rfl) g__law_take F__law_take.kp b__law_take .nil pass0 (pa_cons (pv 0) (pa_cons pe_int pa_nil))) (fun _ _ => rfl)))), ?_⟩
    walk_at "go"
    refine w_new (by simp) fun p1 H1 hp1 s1 h1 => ?_
    walk_at "go"
    refine ⟨b, 3, rfl, by decide, by decide, hb.same s1, fun H2 d hd0 hd1 mv2 hb2 => ?_⟩
    obtain ⟨m, em, hm⟩ := gr_three hd0 hd1
    have n1 : p1 ≠ b := fun e => by
      subst e
      obtain ⟨A, B, h2, _⟩ := hb
      rw [hp1] at h2
      cases h2
    refine w_ixL (mv2 _ _ n1 h1) em ?_
    walk_at "go"
    refine w_new (by simp) fun p3 H3 hp3 s3 h3 => ?_
    walk_at "go"
    refine ⟨b, 8, rfl, by decide, by decide, hb2.same s3, fun H4 e he0 he1 mv4 hb4 => ?_⟩
    obtain ⟨g, eg, hg⟩ := gr_eight he0 he1 hm
    have n3 : p3 ≠ b := fun e => by
      subst e
      obtain ⟨A, B, h2, _⟩ := hb2
      rw [hp3] at h2
      cases h2
    refine w_ixL (mv4 _ _ n3 h3) eg ?_
    exact q _ _ hg ((Mv.same s1).trans (mv2.trans ((Mv.same s3).trans mv4))) hb4
theorem ok__law_letters {f : Addr} {fd : FuncData} (F : FnP K "_law_letters" s__law_letters f fd)
    {f__law_take : Addr} {fd__law_take : FuncData} (F__law_take : FnP K "_law_take" s__law_take f__law_take fd__law_take) (b__law_take : Binds K fd__law_take ["_law_bag_here", "_law_many"] []) (g__law_take : mg "_law_take" = some (.ref f__law_take)) (G__law_take : FnOk P w K mg base CX0 1 f__law_take fd__law_take ["_law_bag_here", "_law_many"] (sp__law_take K)) (m_int : mg "int" = none) :
    FnOk P w K mg base CX0 2 f fd ["_law_bag_here", "_law_g"] (sp__law_letters K) := by
  refine F.ok sc__law_letters (fun vs H Q E h => ?_) (fun cdv A outer s H vs Q E hr h => ?_)
  · obtain ⟨b, g, rfl, hgr, hb, q⟩ := h
    rfl
  · obtain ⟨b, g, rfl, hgr, hb, q⟩ := h
    refine ⟨_, PSs.nox (pss_one (ps_ret (pe_ix ix_list (pe_lst (pa_cons pe_int (pa_cons pe_int (pa_cons pe_int (pa_cons pe_int (pa_cons pe_int (pa_cons pe_int (pa_cons pe_int (pa_cons (pe_op op_add pe_int (pe_callTy call_int1 (by rfl) m_int (by decide +kernel) (pa_cons (pe_cmpR op_eq (pv 1) pe_int (nomark _)) pa_nil))) pa_nil))))))))) (pe_call G__law_take hr (by rfl) g__law_take F__law_take.kp b__law_take .nil pass0 (pa_cons (pv 0) (pa_cons pe_int pa_nil))) (fun _ _ => rfl)))), ?_⟩
    walk_at "go"
    refine .inr ⟨_, rfl, ?_⟩
    walk_at "go"
    refine w_new (by simp) fun p1 H1 hp1 s1 h1 => ?_
    have nb := bag_ne hb hp1
    walk_at "go"
    refine ⟨b, 8, rfl, by decide, by decide, hb.same s1, fun H2 d h20 h21 m2 hb2 => ?_⟩
    have hE : ∃ e : Int, (4 + (if decide (g = 0) = true then (1 : Int) else 0)) = e ∧ (e = 4 ∨ e = 5) ∧ (g ≠ 0 → e = 4) := by
      by_cases h : g = 0
      · exact ⟨5, by rw [decide_eq_true h]; rfl, .inr rfl, fun z => absurd h z⟩
      · exact ⟨4, by rw [decide_eq_false h]; rfl, .inl rfl, fun _ => rfl⟩
    obtain ⟨e, he1, he2, he3⟩ := hE
    rw [he1] at h1
    obtain ⟨m, hm, hm1, hm2⟩ := pick_let h20 h21 he2
    refine w_ixL (m2 _ _ nb h1) hm ?_
    exact q _ m hm1 (by omega) (fun z => by have := he3 z; omega) ((Mv.same s1).trans m2) hb2
theorem ok_is_row {f : Addr} {fd : FuncData} (F : FnP K "is_row" s_is_row f fd)
    {f_is_number : Addr} {fd_is_number : FuncData} (F_is_number : FnP K "is_number" s_is_number f_is_number fd_is_number) (b_is_number : Binds K fd_is_number ["ground", "thing"] []) (g_is_number : mg "is_number" = some (.ref f_is_number)) (G_is_number : FnOk P w K mg base CX0 2 f_is_number fd_is_number ["ground", "thing"] (sp_is_number K)) (m_all : mg "all" = none) (m_isinstance : mg "isinstance" = none) (m_tuple : mg "tuple" = none) (m_len : mg "len" = none) :
    FnOk P w K mg base CX0 3 f fd ["ground", "thing", "many"] (sp_is_row K) := by
  refine F.ok sc_is_row (fun vs H Q E h => ?_) (fun cdv A outer s H vs Q E hr h => ?_)
  · obtain ⟨g, v, m, kb, nb, rfl, hv, q⟩ := h
    rfl
  · obtain ⟨g, v, m, kb, nb, rfl, hv, q⟩ := h
    refine ⟨_, PSs.nox (pss_cons (ps_if (PW.pt (pw_or (pt_not (pt_val (pe_callB call_isi (by rfl) m_isinstance (by decide +kernel) (pa_cons (pv 1) (pa_cons (pe_bltn (v := .ty "tuple") (by rfl) m_tuple (by decide +kernel) rfl) pa_nil))))) (pw_or1 (pt_cmpR op_ne (pe_callB call_len_seq (by rfl) m_len (by decide +kernel) (pa_cons (pv 1) pa_nil)) (pv 2) (nomark _))))) (pss_one (ps_ret pe_bl)) pss_nil)
        (pss_one (ps_ret (pe_callB (cr_all rfl) (by rfl) m_all (by decide +kernel) (pa_cons (pe_lc (own := [("x", 3)]) (g := gName 3) (tt := tYes) (by rfl) sc_is_row.nd (pi_tup (pv 1)) (blkOk_by (own := [("x", 3)]) (N := ["ground", "thing", "many", "x"]) (sc := defScope s_is_row) (by decide +kernel)) (fun _ _ _ _ _ => (pg_name (i := 3) sc_is_row.nd rfl (.inl rfl))) (fun _ _ _ _ _ => pts_nil) (fun _ _ _ _ _ => (pe_call G_is_number hr (by rfl) g_is_number F_is_number.kp b_is_number .nil pass0 (pa_cons (pv 0) (pa_cons (pv 3) pa_nil))))) pa_nil))))), ?_⟩
    walk_at "go"
    refine tb_tup hv (fun p xs e hp hz hx => ?_) (fun hn => ?_)
    · subst e
      rw [rowOf_tup hp] at q
      walk_at "go"
      refine iteF ?_
      walk_at "go"
      refine ⟨p, xs, rfl, .inr (SqT.of hp), ?_⟩
      walk_at "go"
      refine w_iteN (fun hl => ?_) (fun hl => ?_)
      · walk_at "go"
        rw [decide_eq_false hl] at q
        exact q _ (Same.refl _)
      · rw [decide_eq_true hl] at q
        walk_at "go"
        refine ⟨p, rfl, ⟨xs, SqT.of hp⟩, fun D hD => ?_⟩
        refine lc_tup (xs := xs) (fun i H' => Same H H' ∧ H' D = some (.lst (((xs.map (numOf H g)).take i).map V.bl))) ⟨Same.updD (Same.refl H) hD, upd_same⟩ (fun i H' _ hP => SqT.of (hP.1 _ _ hp)) (fun i x H' hxi hP => ?_) (fun H' hP => ?_)
        · obtain ⟨sm, hD'⟩ := hP
          have hmem := List.mem_of_getElem? hxi
          walk_at "go"
          refine ⟨rfl, ?_⟩
          walk_at "go"
          refine ⟨g, x, kb, nb, rfl, (hx x hmem).kd (Kd.of sm), ?_⟩
          rw [numOf_tb (hx x hmem) (Kd.of sm)]
          refine ⟨_, hD', ?_, Same.updD sm hD, ?_⟩
          · rw [List.length_map]
            exact small1000 (Nat.le_trans (List.length_take_le' _ _) (by rw [List.length_map]; omega))
          · rw [upd_same, List.take_add_one, List.getElem?_map, hxi, List.map_append]
            rfl
        · obtain ⟨sm, hD'⟩ := hP
          walk_at "go"
          rw [List.take_of_length_le (by rw [List.length_map]; exact Nat.le_refl _)] at hD'
          refine ⟨D, _, rfl, SqL.of hD', ?_⟩
          rw [all_map]
          exact q _ sm
    · rw [rowOf_no hn] at q
      walk_at "go"
      refine iteT ?_
      walk_at "go"
      exact q _ (Same.refl _)
theorem ok_product_row {f : Addr} {fd : FuncData} (F : FnP K "product_row" s_product_row f fd)
    {f_lowest : Addr} {fd_lowest : FuncData} (F_lowest : FnP K "lowest" s_lowest f_lowest fd_lowest) (b_lowest : Binds K fd_lowest ["ground", "top", "bottom"] []) (g_lowest : mg "lowest" = some (.ref f_lowest)) (G_lowest : FnOk P w K mg base CX0 2 f_lowest fd_lowest ["ground", "top", "bottom"] (sp_lowest K))
    {f_dot : Addr} {fd_dot : FuncData} (F_dot : FnP K "dot" s_dot f_dot fd_dot) (b_dot : Binds K fd_dot ["wholes", "others"] []) (g_dot : mg "dot" = some (.ref f_dot)) (G_dot : FnOk P w K mg base CX0 1 f_dot fd_dot ["wholes", "others"] (sp_dot K)) (m_tuple : mg "tuple" = none) :
    FnOk P w K mg base CX0 3 f fd ["ground", "row", "columns"] (sp_product_row K) := by
  refine F.ok sc_product_row (fun vs H Q E h => ?_) (fun cdv A outer s H vs Q E hr h => ?_)
  · obtain ⟨g, v, c, r, ss, cs, k, rfl, hg, hv, hro, hc, hlc, hcs, hss, hkl, hk, hlr, hls, q⟩ := h
    rfl
  · obtain ⟨g, v, c, r, ss, cs, k, rfl, hg, hv, hro, hc, hlc, hcs, hss, hkl, hk, hlr, hls, q⟩ := h
    refine ⟨_, PSs.nox (pss_cons (ps_asg (pv 1) (pg_tup rfl (pgs_cons (pg_name (i := 3) sc_product_row.nd rfl (.inr rfl)) (pgs_cons (pg_name (i := 4) sc_product_row.nd rfl (.inr rfl)) pgs_nil))))
        (pss_one (ps_ret (pe_callTy call_tuple_of (by rfl) m_tuple (by decide +kernel) (pa_cons (pe_lc (own := [("column", 5), ("under", 6)]) (g := gTup K 2 (gCons (gName 5) (gCons (gName 6) (gNil)))) (tt := tYes) (by rfl) sc_product_row.nd (pi_list (pv 2)) (blkOk_by (own := [("column", 5), ("under", 6)]) (N := ["ground", "row", "columns", "tops", "bottom", "column", "under"]) (sc := defScope s_product_row) (by decide +kernel)) (fun _ _ _ _ _ => (pg_tup rfl (pgs_cons (pg_name (i := 5) sc_product_row.nd rfl (.inl rfl)) (pgs_cons (pg_name (i := 6) sc_product_row.nd rfl (.inl rfl)) pgs_nil)))) (fun _ _ _ _ _ => pts_nil) (fun _ _ _ _ _ => (pe_call G_lowest hr (by rfl) g_lowest F_lowest.kp b_lowest .nil pass0 (pa_cons (pv 0) (pa_cons (pe_call G_dot (hr.mono (by decide)) (by rfl) g_dot F_dot.kp b_dot .nil pass0 (pa_cons (pv 3) (pa_cons (pv 5) pa_nil))) (pa_cons (pe_op op_mulW (pv 4) (pv 6)) pa_nil)))))) pa_nil))))), ?_⟩
    obtain ⟨p, L, rfl, hp, hL⟩ := hv
    walk_at "go"
    refine ⟨c, rfl, ⟨cs, SqL.of hc⟩, fun D hD => ?_⟩
    refine lc_list (xs := cs) (fun i H' => Same H H' ∧ ∃ ys, H' D = some (.lst ys) ∧ Acc NumV H' ys (ss.map (cellF g r)) i) ⟨Same.updD (Same.refl H) hD, [], upd_same, Acc.nil⟩ (fun i H' _ hP => SqL.of (hP.1 _ _ hc)) (fun i x H' hxi hP => ?_) (fun H' hP => ?_)
    · obtain ⟨sm, ys, hD', hacc⟩ := hP
      have hi : i < ss.length := by
        have := (List.getElem?_eq_some_iff.mp hxi).1
        omega
      have hsi : ss[i]? = some ss[i] := List.getElem?_eq_getElem hi
      have hmem := List.getElem_mem hi
      obtain ⟨px, Lx, rfl, hpx, hLx⟩ := hcs i x _ hxi hsi
      have hpx' := sm _ _ hpx
      have e1 : k * r.length ≤ 4000 := hkl
      have e2 : k * ss[i].length ≤ 4000 := by rw [(hss _ hmem).1]; exact e1
      have b1 := wrB_bd (k := k) (r := r) fun x h => ⟨(hro x h).pos, (hro x h).2.1⟩
      have b2 := wrB_bd (k := k) (r := ss[i]) fun x h => ⟨((hss _ hmem).2 x h).pos, ((hss _ hmem).2 x h).2.1⟩
      walk_at "go"
      refine ⟨rfl, ?_⟩
      walk_at "go"
      refine ⟨L, Lx, wrT r, wrT ss[i], rfl, sm _ _ hL, sm _ _ hLx, by rw [wrT_len, wrT_len, (hss _ hmem).1], by rw [wrT_len]; omega, fun t h => Nat.le_trans (wrT_bd hro t h) (Nat.pow_le_pow_right (by decide) (by omega)), fun t h => Nat.le_trans (wrT_bd (hss _ hmem).2 t h) (Nat.pow_le_pow_right (by decide) (by omega)), fun H2 s2 => ?_⟩
      walk_at "go"
      refine w_I (mulW_le b1 b2 (by omega)) ?_
      walk_at "go"
      refine ⟨g, _, _, rfl, cell_ok2 hg hro (hss _ hmem).2 e1 e2 hk hlr, fun p3 H3 hp3 s3 h3 => ?_⟩
      rw [← cell_is hg hro (hss _ hmem).2] at h3
      have h3D := s3 _ _ (s2 _ _ hD')
      have kt : Kt H' (upd H3 D (.lst (ys ++ [V.ref p3]))) := (Kt.of (s2.trans s3)).trans (Kt.updL h3D)
      refine ⟨ys, h3D, small1000 (by rw [hacc.1]; omega), Same.updD ((sm.trans s2).trans s3) hD, _, upd_same, ?_⟩
      refine (hacc.mono fun x a h => NumV.kt h kt).snoc (a := cellF g r ss[i]) (by rw [List.getElem?_map, hsi]; rfl) ⟨p3, rfl, Kt.updL h3D _ _ h3⟩
    · obtain ⟨sm, ys, hD', hacc⟩ := hP
      walk_at "go"
      refine ⟨_, _, rfl, .inl ⟨SqL.of hD', fun l hl => ?_⟩⟩
      exact q _ _ (sm.trans (same_upd hl)) ((hacc.mono fun x a h => NumV.kt h (Kt.of (same_upd hl))).sq (by rw [List.length_map]; exact hlc) upd_same)
theorem ok_whole_table {f : Addr} {fd : FuncData} (F : FnP K "whole_table" s_whole_table f fd)
    {f_whole_row : Addr} {fd_whole_row : FuncData} (F_whole_row : FnP K "whole_row" s_whole_row f_whole_row fd_whole_row) (b_whole_row : Binds K fd_whole_row ["row"] []) (g_whole_row : mg "whole_row" = some (.ref f_whole_row)) (G_whole_row : FnOk P w K mg base CX0 2 f_whole_row fd_whole_row ["row"] (sp_whole_row K)) (m_len : mg "len" = none) (m_range : mg "range" = none) :
    FnOk P w K mg base CX0 3 f fd ["table"] (sp_whole_table K) := by
  refine F.ok sc_whole_table (fun vs H Q E h => ?_) (fun cdv A outer s H vs Q E hr h => ?_)
  · obtain ⟨v, t, g, m, k, rfl, hv, ht1, ht, hm1, hm, hr', hk0, hk, hk2, q⟩ := h
    rfl
  · obtain ⟨v, t, g, m, k, rfl, hv, ht1, ht, hm1, hm, hr', hk0, hk, hk2, q⟩ := h
    refine ⟨_, PSs.nox (pss_cons (ps_set (i := 1) sc_whole_table.nd rfl (.inr rfl) (pe_callB call_len_seq (by rfl) m_len (by decide +kernel) (pa_cons (pe_ix ix_tup (pv 0) pe_int (fun _ _ => rfl)) pa_nil)))
        (pss_cons (ps_asg (pe_call G_whole_row hr (by rfl) g_whole_row F_whole_row.kp b_whole_row .nil pass0 (pa_cons (pe_lc2 (own := [("row", 4), ("x", 6)]) (vs1 := [6]) (g := gName 4) (tt := tYes) (g1 := gName 6) (tt1 := tYes) (wi1 := iTup K (tVar 4)) (by rfl) sc_whole_table.nd (pi_tup (pv 0)) (blkOk_by (own := [("row", 4), ("x", 6)]) (N := ["table", "wide", "tops", "bottom", "row", "at", "x"]) (sc := defScope s_whole_table) (by decide +kernel)) (by decide) (fun _ _ _ _ _ => (pg_name (i := 4) sc_whole_table.nd rfl (.inl rfl))) (fun _ _ _ _ _ => pts_nil) (fun _ _ _ _ _ => (pi_tup (pv 4))) (fun _ _ _ _ _ => (pg_name (i := 6) sc_whole_table.nd rfl (.inl rfl))) (fun _ _ _ _ _ => pts_nil) (fun _ _ _ _ _ => (pv 6))) pa_nil)) (pg_tup rfl (pgs_cons (pg_name (i := 2) sc_whole_table.nd rfl (.inr rfl)) (pgs_cons (pg_name (i := 3) sc_whole_table.nd rfl (.inl rfl)) pgs_nil))))
        (pss_one (ps_ret (pe_tup (pa_cons (pe_lc (own := [("at", 5)]) (g := gName 5) (tt := tYes) (by rfl) sc_whole_table.nd (pi_range3 (by rfl) m_range (pa_cons pe_int (pa_cons (pe_callB call_len_seq (by rfl) m_len (by decide +kernel) (pa_cons (pv 2) pa_nil)) (pa_cons (pv 1) pa_nil)))) (blkOk_by (own := [("at", 5)]) (N := ["table", "wide", "tops", "bottom", "row", "at", "x"]) (sc := defScope s_whole_table) (by decide +kernel)) (fun _ _ _ _ _ => (pg_name (i := 5) sc_whole_table.nd rfl (.inl rfl))) (fun _ _ _ _ _ => pts_nil) (fun _ _ _ _ _ => (pe_slice (r := rSlL K) sl_list (pv 2) (po_some (pv 5)) (po_some (pe_op op_add (pv 5) (pv 1)))))) (pa_cons (pv 3) pa_nil))))))), ?_⟩
    obtain ⟨p, xs, rfl, hp, hlx, hxs⟩ := hv
    have hl : ∀ r ∈ t, r.length = m := fun r h => (hr' r h).1
    have hfl := flat_len hl
    have hfb : m * t.length ≤ 100 := Nat.le_trans (Nat.mul_le_mul hm ht) (by decide)
    have g0 : xs[0]? = some (xs[0]'(by omega)) := List.getElem?_eq_getElem _
    have t0 : t[0]? = some (t[0]'(by omega)) := List.getElem?_eq_getElem _
    obtain ⟨p0, xs0, e0, hp0, hl0, _⟩ := hxs 0 _ _ g0 t0
    have hl00 : xs0.length = m := by rw [hl0]; exact hl _ (List.mem_of_getElem? t0)
    walk_at "go"
    refine w_ixT hp (atI_nat (j := 0) g0) ?_
    rw [e0]
    walk_at "go"
    refine ⟨p0, xs0, rfl, .inr (SqT.of hp0), ?_⟩
    rw [hl00]
    walk_at "go"
    unfold tLc2
    walk_at "go"
    refine ⟨p, rfl, ⟨xs, SqT.of hp⟩, fun D hD => ?_⟩
    refine lc2_out (walk_tup (xs := xs)) (fun i H' => Same H H' ∧ ∃ ys, H' D = some (.lst ys) ∧ Acc NumV H' ys (t.take i).flatten (t.take i).flatten.length) ⟨Same.updD (Same.refl H) hD, [], upd_same, Acc.nil⟩ (fun i H' _ hP => SqT.of (hP.1 _ _ hp)) (fun i x H' H'' hi hP hY => ?_) (fun H' hP => ?_)
    · obtain ⟨rfl, hxi⟩ := hY
      obtain ⟨sm, ys, hD', hacc⟩ := hP
      have hit : i < t.length := by omega
      have gt1 : t[i]? = some t[i] := List.getElem?_eq_getElem hit
      obtain ⟨pi, xi, rfl, hpi, hli, hxi'⟩ := hxs i x _ hxi gt1
      have hlm : (t[i]).length = m := hl _ (List.getElem_mem hit)
      have e1 : (t.take (i + 1)).flatten = (t.take i).flatten ++ t[i] := by
        rw [List.take_add_one, gt1, List.flatten_append]
        simp
      have hflt : (t.take i).flatten.length ≤ 100 := by
        have := flat_len (m := m) (t := t.take i) fun r h => hl r (List.mem_of_mem_take h)
        rw [this, List.length_take]
        exact Nat.le_trans (Nat.mul_le_mul_left m (Nat.min_le_right _ _)) hfb
      walk_at "go"
      refine ⟨rfl, ?_⟩
      walk_at "go"
      refine ⟨pi, rfl, ⟨xi, SqT.of (sm _ _ hpi)⟩, ?_⟩
      refine lc2_in (walk_tup (xs := xi)) (fun j H2 => Same H H2 ∧ ∃ ys, H2 D = some (.lst ys) ∧ Acc NumV H2 ys ((t.take i).flatten ++ t[i].take j) ((t.take i).flatten ++ t[i].take j).length) ⟨sm, ys, hD', by rw [List.take_zero, List.append_nil]; exact hacc⟩ (fun j H2 _ hP2 => SqT.of (hP2.1 _ _ hpi)) (fun j y H2 H3 hj hP2 hY2 => ?_) (fun H2 hP2 => ?_)
      · obtain ⟨rfl, hyj⟩ := hY2
        obtain ⟨sm2, zs, hD2, hacc2⟩ := hP2
        have hj2 : j < t[i].length := by omega
        have gy : t[i][j]? = some t[i][j] := List.getElem?_eq_getElem hj2
        walk_at "go"
        refine ⟨rfl, ?_⟩
        walk_at "go"
        have hlen : ((t.take i).flatten ++ t[i].take j).length ≤ 110 := by rw [List.length_append, List.length_take]; omega
        refine ⟨zs, hD2, small1000 (by rw [hacc2.1]; omega), Same.updD sm2 hD, _, upd_same, ?_⟩
        rw [List.take_add_one, gy, ← List.append_assoc]
        have ktc : Kt _ (upd _ D (.lst (zs ++ [y]))) := Kt.updL hD2
        exact acc_cat (hacc2.mono fun x a h => NumV.kt h ktc) (acc_one (NumV.kt ((hxi' j y _ hyj gy).kt (Kt.of sm2)) ktc))
      · obtain ⟨sm2, zs, hD2, hacc2⟩ := hP2
        refine ⟨sm2, zs, hD2, ?_⟩
        rw [e1]
        have e9 : t[i].take xi.length = t[i] := List.take_of_length_le (by omega)
        rw [e9] at hacc2
        exact hacc2
    · obtain ⟨sm, ys, hD', hacc⟩ := hP
      rw [List.take_of_length_le (by omega)] at hacc
      walk_at "go"
      refine ⟨.ref D, t.flatten, g, k, rfl, .inr ⟨D, ys, rfl, hD', hacc.1, hacc.2⟩, fun x hx => ?_, hk0, by rw [hfl]; exact hk, hk2, by omega, fun p2 L2' H2 s2 hL2 h2 h2L => ?_⟩
      · obtain ⟨r, h1, h2⟩ := List.mem_flatten.mp hx
        exact (hr' r h1).2 x h2
      walk_at "go"
      refine ⟨L2', _, rfl, .inl (SqL.of h2L), ?_⟩
      have elen : (((wrT t.flatten).map V.int).length : Int) = ((m * t.length : Nat) : Int) := by rw [List.length_map, wrT_len, hfl]
      rw [elen]
      walk_at "go"
      refine ⟨0, _, _, t.length, rfl, rgc_by (by omega) (by omega) (by omega), fun D3 hD3 => ?_⟩
      refine lc_it (walk_rangeC (n := t.length)) (fun i H' => Same H2 H' ∧ ∃ zs, H' D3 = some (.lst zs) ∧ Acc (ILn D3) H' zs (wtT m t) i) ⟨Same.updD (Same.refl H2) hD3, [], upd_same, Acc.nil⟩ (fun i H' _ hP => trivial) (fun i v Ha Hb hi hP hY => ?_) (fun H3 hP => ?_)
      · obtain ⟨rfl, rfl⟩ := hY
        obtain ⟨sm3, zs, hD3', hz⟩ := hP
        walk_at "go"
        refine ⟨rfl, ?_⟩
        walk_at "go"
        refine w_slL (sm3 _ _ h2L) fun q' H4 hq' s4 h4 => ?_
        have e4 : (0 : Int) + (i : Int) * (m : Int) = ((m * i : Nat) : Int) := by rw [Int.zero_add, Int.natCast_mul, Int.mul_comm]
        have e5 : ((m * i : Nat) : Int) + (m : Int) = ((m * i + m : Nat) : Int) := by omega
        have hle : m * i + m ≤ ((wrT t.flatten).map V.int).length := by
          rw [List.length_map, wrT_len, hfl, ← Nat.mul_succ]
          exact Nat.mul_le_mul_left m hi
        rw [e4, e5, cut_mid _ _ _ hle, ← List.map_drop, ← List.map_take] at h4
        have hD4 := s4 _ _ hD3'
        have nq : q' ≠ D3 := fun e => by rw [e, hD3'] at hq'; cases hq'
        refine ⟨zs, hD4, small1000 (by rw [hz.1]; omega), Same.updD (sm3.trans s4) hD3, _, upd_same, ?_⟩
        exact (hz.mono fun x a h => (h.sm s4).upd).snoc (wt_at hi) (ILn.upd ⟨q', rfl, nq, h4⟩)
      · obtain ⟨sm3, zs, hD3', hz⟩ := hP
        walk_at "go"
        refine w_new (by simp) fun p5 H5 hp5 s5 h5 => ?_
        refine q p5 D3 zs H5 (sm.trans (s2.trans (sm3.trans s5))) h5 (s5 _ _ hD3') ?_
        rw [wt_len]
        exact acc_imp hz fun x a h => (ILn.il h).sm s5
theorem ok_determinant {f : Addr} {fd : FuncData} (F : FnP K "determinant" s_determinant f fd)
    {f_lowest : Addr} {fd_lowest : FuncData} (F_lowest : FnP K "lowest" s_lowest f_lowest fd_lowest) (b_lowest : Binds K fd_lowest ["ground", "top", "bottom"] []) (g_lowest : mg "lowest" = some (.ref f_lowest)) (G_lowest : FnOk P w K mg base CX0 2 f_lowest fd_lowest ["ground", "top", "bottom"] (sp_lowest K))
    {f_whole_row : Addr} {fd_whole_row : FuncData} (F_whole_row : FnP K "whole_row" s_whole_row f_whole_row fd_whole_row) (b_whole_row : Binds K fd_whole_row ["row"] []) (g_whole_row : mg "whole_row" = some (.ref f_whole_row)) (G_whole_row : FnOk P w K mg base CX0 2 f_whole_row fd_whole_row ["row"] (sp_whole_row K))
    {f_whole_determinant : Addr} {fd_whole_determinant : FuncData} (F_whole_determinant : FnP K "whole_determinant" s_whole_determinant f_whole_determinant fd_whole_determinant) (b_whole_determinant : Binds K fd_whole_determinant ["rows"] []) (g_whole_determinant : mg "whole_determinant" = some (.ref f_whole_determinant)) (G_whole_determinant : FnOk P w K mg base CX0 2 f_whole_determinant fd_whole_determinant ["rows"] (sp_whole_determinant K)) :
    FnOk P w K mg base CX0 3 f fd ["ground", "table"] (sp_determinant K) := by
  refine F.ok sc_determinant (fun vs H Q E h => ?_) (fun cdv A outer s H vs Q E hr h => ?_)
  · obtain ⟨g, v, t, n, k, kb, A, F', R, W, rfl, hg, hv, htn, ht, hn1, hn, hkb0, hkn, hkb, hw, hA, hsz, hk4, hk, q⟩ := h
    rfl
  · obtain ⟨g, v, t, n, k, kb, A, F', R, W, rfl, hg, hv, htn, ht, hn1, hn, hkb0, hkn, hkb, hw, hA, hsz, hk4, hk, q⟩ := h
    refine ⟨_, PSs.nox (pss_cons (ps_set (i := 2) sc_determinant.nd rfl (.inl rfl) (pe_lst pa_nil))
        (pss_cons (ps_set (i := 3) sc_determinant.nd rfl (.inl rfl) pe_int)
        (pss_cons (ps_for PassesOwn.never rfl (pi_tup (pv 1)) (pg_name (i := 4) sc_determinant.nd rfl (.inl rfl)) (pss_cons (ps_asg (pe_call G_whole_row hr (by rfl) g_whole_row F_whole_row.kp b_whole_row .nil pass0 (pa_cons (pv 4) pa_nil)) (pg_tup rfl (pgs_cons (pg_name (i := 5) sc_determinant.nd rfl (.inl rfl)) (pgs_cons (pg_name (i := 6) sc_determinant.nd rfl (.inl rfl)) pgs_nil))))
        (pss_cons (ps_expr (pe_bm PySem.F.plainAttrs_list PySem.F.slot_list_append PySem.F.type_list_append mt_append (pv 2) (pa_cons (pv 5) pa_nil)))
        (pss_one (ps_aug (i := 3) sc_determinant.nd rfl (.inl rfl) (pv 6) ip_mulW)))))
        (pss_one (ps_ret (pe_call G_lowest hr (by rfl) g_lowest F_lowest.kp b_lowest .nil pass0 (pa_cons (pv 0) (pa_cons (pe_call G_whole_determinant hr (by rfl) g_whole_determinant F_whole_determinant.kp b_whole_determinant .nil pass0 (pa_cons (pv 2) pa_nil)) (pa_cons (pv 3) pa_nil))))))))), ?_⟩
    have hpos : ∀ r ∈ t, ∀ a ∈ r, 0 < a.2 := fun r hr a ha => ((ht r hr).2 a ha).pos
    have hprl : ∀ i, (prB (t.take i)).natAbs < 2 ^ k := fun i => by
      refine Nat.lt_of_le_of_lt (Nat.le_trans (prB_le (A := A) fun r hr => (hw r (List.mem_of_mem_take hr)).1) ?_) hsz
      have h1 : (t.take i).length ≤ n := by rw [List.length_take]; omega
      exact Nat.le_trans (Nat.pow_le_pow_right hA h1) (Nat.pow_le_pow_left (Nat.le_mul_of_pos_left A hn1) n)
    have hwk : ∀ r ∈ t, (wrB r).natAbs < 2 ^ k := fun r hr => by
      have h1 : A ≤ (n * A) ^ n := by
        have h2 : n * A ≤ (n * A) ^ n := by
          have := Nat.pow_le_pow_right (n := n * A) (Nat.mul_le_mul hn1 hA) hn1
          rw [Nat.pow_one] at this
          exact this
        exact Nat.le_trans (Nat.le_mul_of_pos_left A hn1) h2
      have := (hw r hr).1
      omega
    obtain ⟨p, xs, rfl, hp, hlx, hxs⟩ := hv
    walk_at "go"
    refine w_new (by simp) fun L H1 hL s1 h1 => ?_
    walk_at "go"
    refine ⟨p, rfl, ⟨xs, SqT.of (s1 _ _ hp)⟩, ?_⟩
    refine for_tup (xs := xs) (fun i σ H' => (∃ y4 y5 y6, σ = [some (.int g), some (.ref p), some (.ref L), some (.int (prB (t.take i))), y4, y5, y6]) ∧ Same H H' ∧ ∃ ys, H' L = some (.lst ys) ∧ Acc (ILn L) H' ys (t.map wrT) i) ⟨⟨_, _, _, rfl⟩, s1, [], h1, Acc.nil⟩ (fun i σ H' _ hP => SqT.of (hP.2.1 _ _ hp)) (fun i x σ H' hxi hP => ?_) (fun σ H' hP => ?_)
    · obtain ⟨⟨y4, y5, y6, rfl⟩, sm, ys, hL', hacc⟩ := hP
      have hi : i < t.length := by
        have := (List.getElem?_eq_some_iff.mp hxi).1
        omega
      have gt1 : t[i]? = some t[i] := List.getElem?_eq_getElem hi
      have hr := ht _ (List.getElem_mem hi)
      walk_at "go"
      refine ⟨x, t[i], g, kb, rfl, .inl (RowV.kt (hxs i x _ hxi gt1) (Kt.of sm)), fun a ha => (hr.2 a ha).okn hg, hkb0, by rw [hr.1]; exact hkn, hkb, by omega, fun p2 L2 H2 s2 hL2 h2 h2L => ?_⟩
      walk_at "go"
      have hLL := s2 _ _ hL'
      refine ⟨.inl ⟨rfl, _, SqL.of hLL⟩, ?_⟩
      walk_at "go"
      refine w_append hLL (by rw [hacc.1]; omega) ?_
      have nL : L2 ≠ L := fun e => by rw [e, hL'] at hL2; cases hL2
      walk_at "go"
      unfold Ends.nx
      refine w_aug (i := 3) (x := .int (prB (t.take i))) (by rfl) ?_
      walk_at "go"
      refine ⟨_, _, rfl, rfl, wide_mul (hprl i) (hwk _ (List.getElem_mem hi)) (by omega) (by omega) (by omega), ?_⟩
      refine ⟨⟨_, _, _, by rw [prB_take gt1]; rfl⟩, Same.updD (sm.trans s2) hL, _, upd_same, ?_⟩
      exact (hacc.mono fun x a h => (h.sm s2).upd).snoc (a := wrT t[i]) (by rw [List.getElem?_map, gt1]; rfl) (ILn.upd ⟨L2, rfl, nL, h2L⟩)
    · obtain ⟨⟨y4, y5, y6, rfl⟩, sm, ys, hL', hacc⟩ := hP
      rw [List.take_of_length_le (show t.length ≤ xs.length by omega)]
      have hacc' : Acc IL H' ys (t.map wrT) (t.map wrT).length := by
        rw [List.length_map, ← hlx]
        exact acc_imp hacc fun x a h => ILn.il h
      obtain ⟨e1, n1⟩ := dt_wr (V := W) hg htn (fun r hr => (ht r hr).2)
      have hrows : ∀ r ∈ t.map wrT, r.length = n ∧ ∀ x, (gt r x).natAbs ≤ A := fun r hr => by
        obtain ⟨s, hs, rfl⟩ := List.mem_map.mp hr
        refine ⟨by rw [wrT_len, (ht s hs).1], fun x => ?_⟩
        by_cases e : gt (wrT s) x = 0
        · rw [e]
          exact Nat.zero_le _
        · exact (hw s hs).2 _ (gt_mem e)
      walk_at "go"
      refine ⟨.ref L, t.map wrT, n, A, k, rfl, ⟨L, ys, rfl, hL', hacc'⟩, by rw [List.length_map]; exact htn, hn1, hn, hrows, hA, hsz, by omega, hk, fun H2 s2 => ?_⟩
      have hprB : 0 < prB t := prB_ne hpos
      have hpk : (prB t).natAbs < 2 ^ k := by
        have := hprl t.length
        rw [List.take_length] at this
        exact this
      have hfm : g ≠ 0 → (prB t).fmod g ≠ 0 := fun z e => n1 (by
        have := W.imod z (prB t)
        rw [e, W.i0] at this
        exact this.symm)
      have hdk : (dt (t.map wrT) (List.range n)).natAbs < 2 ^ k := by
        refine Nat.lt_of_le_of_lt (Nat.le_trans (dt_abs (A := A) _ _ (by rw [List.length_map, List.length_range, htn]) fun i x => ?_) (by rw [List.length_range]; exact Nat.le_refl _)) hsz
        show (gt ((t.map wrT).getD i []) x).natAbs ≤ A
        cases e : (t.map wrT)[i]? with
        | none =>
          have q1 : (t.map wrT).getD i [] = [] := by rw [List.getD_eq_getElem?_getD, e]; rfl
          have : gt [] x = 0 := by unfold gt; simp
          rw [q1, this]
          exact Nat.zero_le _
        | some r =>
          have q1 : (t.map wrT).getD i [] = r := by rw [List.getD_eq_getElem?_getD, e]; rfl
          rw [q1]
          exact (hrows r (List.mem_of_getElem? e)).2 x
      walk_at "go"
      refine ⟨g, _, prB t, rfl, lowP hg (by omega) hfm hdk hpk (by omega), fun p3 H3 hp3 s3 h3 => ?_⟩
      refine q _ _ _ (sm.trans (s2.trans s3)) ⟨p3, rfl, h3⟩ (tn_low hg (by omega) hfm hk4 hdk hpk) ?_
      refine W.cancel (z := W.i (prB t)) ?_ n1
      rw [W.low hg (by omega) hfm, e1]
      grind
theorem ok__law_plus {f : Addr} {fd : FuncData} (F : FnP K "_law_plus" s__law_plus f fd)
    {f__law_low : Addr} {fd__law_low : FuncData} (F__law_low : FnP K "_law_low" s__law_low f__law_low fd__law_low) (b__law_low : Binds K fd__law_low ["_law_g", "_law_up", "_law_down"] []) (g__law_low : mg "_law_low" = some (.ref f__law_low)) (G__law_low : FnOk P w K mg base CX0 2 f__law_low fd__law_low ["_law_g", "_law_up", "_law_down"] (sp__law_low K)) :
    FnOk P w K mg base CX0 3 f fd ["_law_g", "_law_x", "_law_y"] (sp__law_plus K) := by
  refine F.ok sc__law_plus (fun vs H Q E h => ?_) (fun cdv A outer s H vs Q E hr h => ?_)
  · obtain ⟨g, x, y, a, c, rfl, hg0, hg, hx, hy, ha, hc, q⟩ := h
    rfl
  · obtain ⟨g, x, y, a, c, rfl, hg0, hg, hx, hy, ha, hc, q⟩ := h
    refine ⟨_, PSs.nox (pss_one (ps_ret (pe_call G__law_low hr (by rfl) g__law_low F__law_low.kp b__law_low .nil pass0 (pa_cons (pv 0) (pa_cons (pe_op op_add (pe_op op_mulW (pe_ix ix_tup (pv 1) pe_int (fun _ _ => rfl)) (pe_ix ix_tup (pv 2) pe_int (fun _ _ => rfl))) (pe_op op_mulW (pe_ix ix_tup (pv 2) pe_int (fun _ _ => rfl)) (pe_ix ix_tup (pv 1) pe_int (fun _ _ => rfl)))) (pa_cons (pe_op op_mulW (pe_ix ix_tup (pv 1) pe_int (fun _ _ => rfl)) (pe_ix ix_tup (pv 2) pe_int (fun _ _ => rfl))) pa_nil)))))), ?_⟩
    obtain ⟨px, rfl, hpx⟩ := hx
    obtain ⟨py, rfl, hpy⟩ := hy
    have hW : ∀ {u v : Int}, u.natAbs < 2 ^ 3900 → v.natAbs < 2 ^ 3900 → CMulW u v := fun h1 h2 => wide_mul h1 h2 (by decide) (by decide) (by decide)
    have hD : (a.2 * c.2).natAbs < 2 ^ 8000 := Nat.lt_of_lt_of_le (wide_lt ha.2.1 hc.2.1) (Nat.pow_le_pow_right (by decide) (by decide))
    walk_at "go"
    refine w_I (hW ha.1 hc.2.1) ?_
    walk_at "go"
    refine w_I (hW hc.1 ha.2.1) ?_
    walk_at "go"
    refine w_I (hW ha.2.1 hc.2.1) ?_
    walk_at "go"
    exact ⟨g, _, _, rfl, hg0, hg, Int.mul_ne_zero ha.2.2 hc.2.2, hD, fun p H1 hp s1 h1 => q p H1 hp s1 h1⟩
theorem ok__law_times {f : Addr} {fd : FuncData} (F : FnP K "_law_times" s__law_times f fd)
    {f__law_low : Addr} {fd__law_low : FuncData} (F__law_low : FnP K "_law_low" s__law_low f__law_low fd__law_low) (b__law_low : Binds K fd__law_low ["_law_g", "_law_up", "_law_down"] []) (g__law_low : mg "_law_low" = some (.ref f__law_low)) (G__law_low : FnOk P w K mg base CX0 2 f__law_low fd__law_low ["_law_g", "_law_up", "_law_down"] (sp__law_low K)) :
    FnOk P w K mg base CX0 3 f fd ["_law_g", "_law_x", "_law_y"] (sp__law_times K) := by
  refine F.ok sc__law_times (fun vs H Q E h => ?_) (fun cdv A outer s H vs Q E hr h => ?_)
  · obtain ⟨g, x, y, a, c, rfl, hg0, hg, hx, hy, ha, hc, q⟩ := h
    rfl
  · obtain ⟨g, x, y, a, c, rfl, hg0, hg, hx, hy, ha, hc, q⟩ := h
    refine ⟨_, PSs.nox (pss_one (ps_ret (pe_call G__law_low hr (by rfl) g__law_low F__law_low.kp b__law_low .nil pass0 (pa_cons (pv 0) (pa_cons (pe_op op_mulW (pe_ix ix_tup (pv 1) pe_int (fun _ _ => rfl)) (pe_ix ix_tup (pv 2) pe_int (fun _ _ => rfl))) (pa_cons (pe_op op_mulW (pe_ix ix_tup (pv 1) pe_int (fun _ _ => rfl)) (pe_ix ix_tup (pv 2) pe_int (fun _ _ => rfl))) pa_nil)))))), ?_⟩
    obtain ⟨px, rfl, hpx⟩ := hx
    obtain ⟨py, rfl, hpy⟩ := hy
    have hW : ∀ {u v : Int}, u.natAbs < 2 ^ 3900 → v.natAbs < 2 ^ 3900 → CMulW u v := fun h1 h2 => wide_mul h1 h2 (by decide) (by decide) (by decide)
    have hD : (a.2 * c.2).natAbs < 2 ^ 8000 := Nat.lt_of_lt_of_le (wide_lt ha.2.1 hc.2.1) (Nat.pow_le_pow_right (by decide) (by decide))
    walk_at "go"
    refine w_I (hW ha.1 hc.1) ?_
    walk_at "go"
    refine w_I (hW ha.2.1 hc.2.1) ?_
    walk_at "go"
    exact ⟨g, _, _, rfl, hg0, hg, Int.mul_ne_zero ha.2.2 hc.2.2, hD, fun p H1 hp s1 h1 => q p H1 hp s1 h1⟩
theorem ok__law_minus {f : Addr} {fd : FuncData} (F : FnP K "_law_minus" s__law_minus f fd)
    {f__law_low : Addr} {fd__law_low : FuncData} (F__law_low : FnP K "_law_low" s__law_low f__law_low fd__law_low) (b__law_low : Binds K fd__law_low ["_law_g", "_law_up", "_law_down"] []) (g__law_low : mg "_law_low" = some (.ref f__law_low)) (G__law_low : FnOk P w K mg base CX0 2 f__law_low fd__law_low ["_law_g", "_law_up", "_law_down"] (sp__law_low K)) :
    FnOk P w K mg base CX0 3 f fd ["_law_g", "_law_x"] (sp__law_minus K) := by
  refine F.ok sc__law_minus (fun vs H Q E h => ?_) (fun cdv A outer s H vs Q E hr h => ?_)
  · obtain ⟨g, x, a, rfl, hg0, hg, hx, ha, ha2, q⟩ := h
    rfl
  · obtain ⟨g, x, a, rfl, hg0, hg, hx, ha, ha2, q⟩ := h
    refine ⟨_, PSs.nox (pss_one (ps_ret (pe_call G__law_low hr (by rfl) g__law_low F__law_low.kp b__law_low .nil pass0 (pa_cons (pv 0) (pa_cons (pe_op op_sub pe_int (pe_ix ix_tup (pv 1) pe_int (fun _ _ => rfl))) (pa_cons (pe_ix ix_tup (pv 1) pe_int (fun _ _ => rfl)) pa_nil)))))), ?_⟩
    obtain ⟨px, rfl, hpx⟩ := hx
    walk_at "go"
    exact ⟨g, _, _, rfl, hg0, hg, ha2, ha, fun p H1 hp s1 h1 => q p H1 hp s1 h1⟩
theorem ok__law_over {f : Addr} {fd : FuncData} (F : FnP K "_law_over" s__law_over f fd)
    {f__law_low : Addr} {fd__law_low : FuncData} (F__law_low : FnP K "_law_low" s__law_low f__law_low fd__law_low) (b__law_low : Binds K fd__law_low ["_law_g", "_law_up", "_law_down"] []) (g__law_low : mg "_law_low" = some (.ref f__law_low)) (G__law_low : FnOk P w K mg base CX0 2 f__law_low fd__law_low ["_law_g", "_law_up", "_law_down"] (sp__law_low K)) :
    FnOk P w K mg base CX0 3 f fd ["_law_g", "_law_x", "_law_y"] (sp__law_over K) := by
  refine F.ok sc__law_over (fun vs H Q E h => ?_) (fun cdv A outer s H vs Q E hr h => ?_)
  · obtain ⟨g, x, y, a, c, rfl, hg0, hg, hx, hy, ha, hc, hz, q⟩ := h
    rfl
  · obtain ⟨g, x, y, a, c, rfl, hg0, hg, hx, hy, ha, hc, hz, q⟩ := h
    refine ⟨_, PSs.nox (pss_one (ps_ret (pe_call G__law_low hr (by rfl) g__law_low F__law_low.kp b__law_low .nil pass0 (pa_cons (pv 0) (pa_cons (pe_op op_mulW (pe_ix ix_tup (pv 1) pe_int (fun _ _ => rfl)) (pe_ix ix_tup (pv 2) pe_int (fun _ _ => rfl))) (pa_cons (pe_op op_mulW (pe_ix ix_tup (pv 1) pe_int (fun _ _ => rfl)) (pe_ix ix_tup (pv 2) pe_int (fun _ _ => rfl))) pa_nil)))))), ?_⟩
    obtain ⟨px, rfl, hpx⟩ := hx
    obtain ⟨py, rfl, hpy⟩ := hy
    have hW : ∀ {u v : Int}, u.natAbs < 2 ^ 3900 → v.natAbs < 2 ^ 3900 → CMulW u v := fun h1 h2 => wide_mul h1 h2 (by decide) (by decide) (by decide)
    have hD : (a.2 * c.1).natAbs < 2 ^ 8000 := Nat.lt_of_lt_of_le (wide_lt ha.2.1 hc.1) (Nat.pow_le_pow_right (by decide) (by decide))
    walk_at "go"
    refine w_I (hW ha.1 hc.2.1) ?_
    walk_at "go"
    refine w_I (hW ha.2.1 hc.1) ?_
    walk_at "go"
    exact ⟨g, _, _, rfl, hg0, hg, Int.mul_ne_zero ha.2.2 hz, hD, fun p H1 hp s1 h1 => q p H1 hp s1 h1⟩
theorem ok__law_number {f : Addr} {fd : FuncData} (F : FnP K "_law_number" s__law_number f fd)
    {f__law_low : Addr} {fd__law_low : FuncData} (F__law_low : FnP K "_law_low" s__law_low f__law_low fd__law_low) (b__law_low : Binds K fd__law_low ["_law_g", "_law_up", "_law_down"] []) (g__law_low : mg "_law_low" = some (.ref f__law_low)) (G__law_low : FnOk P w K mg base CX0 2 f__law_low fd__law_low ["_law_g", "_law_up", "_law_down"] (sp__law_low K))
    {f__law_take : Addr} {fd__law_take : FuncData} (F__law_take : FnP K "_law_take" s__law_take f__law_take fd__law_take) (b__law_take : Binds K fd__law_take ["_law_bag_here", "_law_many"] []) (g__law_take : mg "_law_take" = some (.ref f__law_take)) (G__law_take : FnOk P w K mg base CX0 1 f__law_take fd__law_take ["_law_bag_here", "_law_many"] (sp__law_take K)) :
    FnOk P w K mg base CX0 3 f fd ["_law_bag_here", "_law_g"] (sp__law_number K) := by
  refine F.ok sc__law_number (fun vs H Q E h => ?_) (fun cdv A outer s H vs Q E hr h => ?_)
  · obtain ⟨b, g, rfl, hgr, hb, q⟩ := h
    rfl
  · obtain ⟨b, g, rfl, hgr, hb, q⟩ := h
    refine ⟨_, PSs.nox (pss_cons (ps_if (pt_cmpR op_gt (pv 1) pe_int (nomark _)) (pss_one (ps_ret (pe_tup (pa_cons (pe_call G__law_take (hr.mono (by decide)) (by rfl) g__law_take F__law_take.kp b__law_take .nil pass0 (pa_cons (pv 0) (pa_cons (pv 1) pa_nil))) (pa_cons pe_int pa_nil))))) pss_nil)
        (pss_cons (ps_set (i := 2) sc__law_number.nd rfl (.inl rfl) (pe_ix ix_list (pe_lst (pa_cons pe_int (pa_cons pe_int (pa_cons pe_int (pa_cons pe_int (pa_cons pe_int (pa_cons pe_int pa_nil))))))) (pe_call G__law_take (hr.mono (by decide)) (by rfl) g__law_take F__law_take.kp b__law_take .nil pass0 (pa_cons (pv 0) (pa_cons pe_int pa_nil))) (fun _ _ => rfl)))
        (pss_cons (ps_set (i := 3) sc__law_number.nd rfl (.inl rfl) (pe_ix ix_list (pe_lst (pa_cons pe_int (pa_cons pe_int (pa_cons pe_int (pa_cons (pe_op op_add pe_int (pe_call G__law_take (hr.mono (by decide)) (by rfl) g__law_take F__law_take.kp b__law_take .nil pass0 (pa_cons (pv 0) (pa_cons pe_int pa_nil)))) pa_nil))))) (pe_call G__law_take (hr.mono (by decide)) (by rfl) g__law_take F__law_take.kp b__law_take .nil pass0 (pa_cons (pv 0) (pa_cons pe_int pa_nil))) (fun _ _ => rfl)))
        (pss_one (ps_ret (pe_call G__law_low hr (by rfl) g__law_low F__law_low.kp b__law_low .nil pass0 (pa_cons pe_int (pa_cons (pe_op op_sub (pe_call G__law_take (hr.mono (by decide)) (by rfl) g__law_take F__law_take.kp b__law_take .nil pass0 (pa_cons (pv 0) (pa_cons (pv 2) pa_nil))) (pe_op op_fdivZ (pv 2) pe_int)) (pa_cons (pv 3) pa_nil))))))))), ?_⟩
    obtain ⟨hg0, hg⟩ := hgr.bd
    have hg3 := hgr.three
    walk_at "go"
    refine w_ite (fun hc => ?_) (fun hc => ?_)
    · walk_at "go"
      refine ⟨b, g, rfl, hc, by omega, hb, fun H1 d hd0 hd1 m1 hb1 => ?_⟩
      walk_at "go"
      refine w_new (by simp) fun p H2 hp s2 h2 => ?_
      refine q _ _ (d, 1) ⟨p, rfl, h2⟩ ⟨show (0 : Int) < 1 by decide, show (1 : Int) ∣ 2520 by decide, ?_, ?_⟩ ⟨.inr ⟨hc, hd0, hd1, rfl⟩, ?_, show (1 : Int).natAbs < 2 ^ 7 by decide⟩ (m1.trans (Mv.same s2)) (hb1.same s2)
      · show d.natAbs ≤ 64 * 2 ^ 0 * 1
        omega
      · exact .inr ⟨by omega, by omega, rfl⟩
      · show d.natAbs < 2 ^ 7
        omega
    · walk_at "go"
      refine w_new (by simp) fun p1 H1 hp1 s1 h1 => ?_
      walk_at "go"
      refine ⟨b, 6, rfl, by decide, by decide, hb.same s1, fun H2 d2 h20 h21 m2 hb2 => ?_⟩
      obtain ⟨wd, ew, hw0, hw1⟩ := nu_six h20 h21
      refine w_ixL (m2 _ _ (bag_ne hb hp1) h1) ew ?_
      walk_at "go"
      refine ⟨b, 8, rfl, by decide, by decide, hb2, fun H3 d3 h30 h31 m3 hb3 => ?_⟩
      walk_at "go"
      refine w_new (by simp) fun p4 H4 hp4 s4 h4 => ?_
      walk_at "go"
      refine ⟨b, 4, rfl, by decide, by decide, hb3.same s4, fun H5 d5 h50 h51 m5 hb5 => ?_⟩
      obtain ⟨dn, ed, hdn0, hdn1⟩ := nu_four h50 h51 h30 h31
      refine w_ixL (m5 _ _ (bag_ne hb3 hp4) h4) ed ?_
      walk_at "go"
      refine ⟨b, wd, rfl, by omega, by omega, hb5, fun H6 d6 h60 h61 m6 hb6 => ?_⟩
      walk_at "go"
      refine w_I (divZ_small (by decide) (by decide)) ?_
      walk_at "go"
      refine ⟨0, _, dn, rfl, by decide, by decide, by omega, Nat.lt_of_lt_of_le (show dn.natAbs < 2 ^ 7 by omega) (Nat.pow_le_pow_right (by decide) (by decide)), fun p H7 hp s7 h7 => ?_⟩
      have hu : (d6 - wd.fdiv 2).natAbs ≤ 64 := by
        rw [fdiv_pos _ (by decide)]
        omega
      have e0 : g = 0 := by omega
      subst e0
      exact q _ _ _ ⟨p, rfl, h7⟩ (ng_low hu hdn0 hdn1) (tn_low (.inl rfl) (by omega) (fun z => absurd rfl z) (by decide) (by omega) (by omega)) ((Mv.same s1).trans (m2.trans (m3.trans ((Mv.same s4).trans (m5.trans (m6.trans (Mv.same s7))))))) (hb6.same s7)
theorem ok_is_table {f : Addr} {fd : FuncData} (F : FnP K "is_table" s_is_table f fd)
    {f_is_row : Addr} {fd_is_row : FuncData} (F_is_row : FnP K "is_row" s_is_row f_is_row fd_is_row) (b_is_row : Binds K fd_is_row ["ground", "thing", "many"] []) (g_is_row : mg "is_row" = some (.ref f_is_row)) (G_is_row : FnOk P w K mg base CX0 3 f_is_row fd_is_row ["ground", "thing", "many"] (sp_is_row K)) (m_all : mg "all" = none) (m_isinstance : mg "isinstance" = none) (m_tuple : mg "tuple" = none) (m_len : mg "len" = none) :
    FnOk P w K mg base CX0 4 f fd ["ground", "thing", "high", "wide"] (sp_is_table K) := by
  refine F.ok sc_is_table (fun vs H Q E h => ?_) (fun cdv A outer s H vs Q E hr h => ?_)
  · obtain ⟨g, v, m, w, kb, nb, rfl, hv, q⟩ := h
    rfl
  · obtain ⟨g, v, m, w, kb, nb, rfl, hv, q⟩ := h
    refine ⟨_, PSs.nox (pss_cons (ps_if (PW.pt (pw_or (pt_not (pt_val (pe_callB call_isi (by rfl) m_isinstance (by decide +kernel) (pa_cons (pv 1) (pa_cons (pe_bltn (v := .ty "tuple") (by rfl) m_tuple (by decide +kernel) rfl) pa_nil))))) (pw_or1 (pt_cmpR op_ne (pe_callB call_len_seq (by rfl) m_len (by decide +kernel) (pa_cons (pv 1) pa_nil)) (pv 2) (nomark _))))) (pss_one (ps_ret pe_bl)) pss_nil)
        (pss_one (ps_ret (pe_callB (cr_all rfl) (by rfl) m_all (by decide +kernel) (pa_cons (pe_lc (own := [("row", 4)]) (g := gName 4) (tt := tYes) (by rfl) sc_is_table.nd (pi_tup (pv 1)) (blkOk_by (own := [("row", 4)]) (N := ["ground", "thing", "high", "wide", "row"]) (sc := defScope s_is_table) (by decide +kernel)) (fun _ _ _ _ _ => (pg_name (i := 4) sc_is_table.nd rfl (.inl rfl))) (fun _ _ _ _ _ => pts_nil) (fun _ _ _ _ _ => (pe_call G_is_row hr (by rfl) g_is_row F_is_row.kp b_is_row .nil pass0 (pa_cons (pv 0) (pa_cons (pv 4) (pa_cons (pv 3) pa_nil)))))) pa_nil))))), ?_⟩
    walk_at "go"
    refine tb_tup hv (fun p xs e hp hz hx => ?_) (fun hn => ?_)
    · subst e
      rw [tabOf_tup hp] at q
      walk_at "go"
      refine iteF ?_
      walk_at "go"
      refine ⟨p, xs, rfl, .inr (SqT.of hp), ?_⟩
      walk_at "go"
      refine w_iteN (fun hl => ?_) (fun hl => ?_)
      · walk_at "go"
        rw [decide_eq_false hl] at q
        exact q _ (Same.refl _)
      · rw [decide_eq_true hl] at q
        walk_at "go"
        refine ⟨p, rfl, ⟨xs, SqT.of hp⟩, fun D hD => ?_⟩
        refine lc_tup (xs := xs) (fun i H' => Same H H' ∧ H' D = some (.lst (((xs.map (rowOf H g w)).take i).map V.bl))) ⟨Same.updD (Same.refl H) hD, upd_same⟩ (fun i H' _ hP => SqT.of (hP.1 _ _ hp)) (fun i x H' hxi hP => ?_) (fun H' hP => ?_)
        · obtain ⟨sm, hD'⟩ := hP
          have hmem := List.mem_of_getElem? hxi
          walk_at "go"
          refine ⟨rfl, ?_⟩
          walk_at "go"
          refine ⟨g, x, w, kb, nb, rfl, (hx x hmem).kd (Kd.of sm), fun H2 s2 => ?_⟩
          rw [rowOf_tb (hx x hmem) (Kd.of sm)]
          refine ⟨_, s2 _ _ hD', ?_, Same.updD (sm.trans s2) hD, ?_⟩
          · rw [List.length_map]
            exact small1000 (Nat.le_trans (List.length_take_le' _ _) (by rw [List.length_map]; omega))
          · rw [upd_same, List.take_add_one, List.getElem?_map, hxi, List.map_append]
            rfl
        · obtain ⟨sm, hD'⟩ := hP
          walk_at "go"
          rw [List.take_of_length_le (by rw [List.length_map]; exact Nat.le_refl _)] at hD'
          refine ⟨D, _, rfl, SqL.of hD', ?_⟩
          rw [all_map]
          exact q _ sm
    · rw [tabOf_no hn] at q
      walk_at "go"
      refine iteT ?_
      walk_at "go"
      exact q _ (Same.refl _)
theorem ok_product {f : Addr} {fd : FuncData} (F : FnP K "product" s_product f fd)
    {f_whole_row : Addr} {fd_whole_row : FuncData} (F_whole_row : FnP K "whole_row" s_whole_row f_whole_row fd_whole_row) (b_whole_row : Binds K fd_whole_row ["row"] []) (g_whole_row : mg "whole_row" = some (.ref f_whole_row)) (G_whole_row : FnOk P w K mg base CX0 2 f_whole_row fd_whole_row ["row"] (sp_whole_row K))
    {f_turned : Addr} {fd_turned : FuncData} (F_turned : FnP K "turned" s_turned f_turned fd_turned) (b_turned : Binds K fd_turned ["table"] []) (g_turned : mg "turned" = some (.ref f_turned)) (G_turned : FnOk P w K mg base CX0 1 f_turned fd_turned ["table"] (sp_turned K))
    {f_product_row : Addr} {fd_product_row : FuncData} (F_product_row : FnP K "product_row" s_product_row f_product_row fd_product_row) (b_product_row : Binds K fd_product_row ["ground", "row", "columns"] []) (g_product_row : mg "product_row" = some (.ref f_product_row)) (G_product_row : FnOk P w K mg base CX0 3 f_product_row fd_product_row ["ground", "row", "columns"] (sp_product_row K)) (m_tuple : mg "tuple" = none) :
    FnOk P w K mg base CX0 4 f fd ["ground", "one", "other"] (sp_product K) := by
  refine F.ok sc_product (fun vs H Q E h => ?_) (fun cdv A outer s H vs Q E hr h => ?_)
  · obtain ⟨g, v1, v2, t1, t2, n, l, k, rfl, hg, hv1, hv2, h1, ht2, h2, hn0, hn, hl, ht1, hk0, hkn, hk, q⟩ := h
    rfl
  · obtain ⟨g, v1, v2, t1, t2, n, l, k, rfl, hg, hv1, hv2, h1, ht2, h2, hn0, hn, hl, ht1, hk0, hkn, hk, q⟩ := h
    refine ⟨_, PSs.nox (pss_cons (ps_set (i := 3) sc_product.nd rfl (.inr rfl) (pe_lc (own := [("column", 4)]) (g := gName 4) (tt := tYes) (by rfl) sc_product.nd (pi_tup (pe_call G_turned (hr.mono (by decide)) (by rfl) g_turned F_turned.kp b_turned .nil pass0 (pa_cons (pv 2) pa_nil))) (blkOk_by (own := [("column", 4)]) (N := ["ground", "one", "other", "columns", "column", "row"]) (sc := defScope s_product) (by decide +kernel)) (fun _ _ _ _ _ => (pg_name (i := 4) sc_product.nd rfl (.inl rfl))) (fun _ _ _ _ _ => pts_nil) (fun _ _ _ _ _ => (pe_call G_whole_row (hr.mono (by decide)) (by rfl) g_whole_row F_whole_row.kp b_whole_row .nil pass0 (pa_cons (pv 4) pa_nil)))))
        (pss_one (ps_ret (pe_callTy call_tuple_of (by rfl) m_tuple (by decide +kernel) (pa_cons (pe_lc (own := [("row", 5)]) (g := gName 5) (tt := tYes) (by rfl) sc_product.nd (pi_tup (pv 1)) (blkOk_by (own := [("row", 5)]) (N := ["ground", "one", "other", "columns", "column", "row"]) (sc := defScope s_product) (by decide +kernel)) (fun _ _ _ _ _ => (pg_name (i := 5) sc_product.nd rfl (.inl rfl))) (fun _ _ _ _ _ => pts_nil) (fun _ _ _ _ _ => (pe_call G_product_row hr (by rfl) g_product_row F_product_row.kp b_product_row .nil pass0 (pa_cons (pv 0) (pa_cons (pe_call G_whole_row (hr.mono (by decide)) (by rfl) g_whole_row F_whole_row.kp b_whole_row .nil pass0 (pa_cons (pv 5) pa_nil)) (pa_cons (pv 3) pa_nil)))))) pa_nil))))), ?_⟩
    walk_at "go"
    refine ⟨v2, t2, l, rfl, hv2, by omega, by omega, fun r hr' => (h2 r hr').1, hl, fun vt H1 s1 htv => ?_⟩
    obtain ⟨pt, cx, rfl, hpt, hlcx, hcx⟩ := htv
    have hcols := turn_ok ht2 h2
    have hlt : (turnF l t2).length = l := by unfold turnF; rw [List.length_map, List.length_range]
    refine ⟨pt, rfl, ⟨cx, SqT.of hpt⟩, fun D hD => ?_⟩
    refine lc_tup (xs := cx) (fun i H' => Same H1 H' ∧ ∃ cs, H' D = some (.lst cs) ∧ Acc (WRn D) H' cs (turnF l t2) i) ⟨Same.updD (Same.refl H1) hD, [], upd_same, Acc.nil⟩ (fun i H' _ hP => SqT.of (hP.1 _ _ hpt)) (fun i x H' hxi hP => ?_) (fun H2 hP => ?_)
    · obtain ⟨sm, cs, hD', hacc⟩ := hP
      have hi : i < (turnF l t2).length := by
        have := (List.getElem?_eq_some_iff.mp hxi).1
        omega
      have hti : (turnF l t2)[i]? = some (turnF l t2)[i] := List.getElem?_eq_getElem hi
      have hmem := List.getElem_mem hi
      walk_at "go"
      refine ⟨rfl, ?_⟩
      walk_at "go"
      refine ⟨x, (turnF l t2)[i], g, k, rfl, .inl (RowV.kt (hcx i x _ hxi hti) (Kt.of sm)), (hcols _ hmem).2, hk0, by rw [(hcols _ hmem).1]; omega, by omega, by have := (hcols _ hmem).1; omega, fun p3 L3 H3 s3 hL3 h3 h3L => ?_⟩
      have h3D := s3 _ _ hD'
      have nL : L3 ≠ D := fun e => by
        rw [e, hD'] at hL3
        cases hL3
      refine ⟨cs, h3D, small1000 (by rw [hacc.1]; omega), Same.updD (sm.trans s3) hD, _, upd_same, ?_⟩
      exact (hacc.mono fun x a h => (h.sm s3).upd h3D).snoc hti (WRn.upd ⟨p3, L3, rfl, nL, h3, h3L⟩ h3D)
    · obtain ⟨sm, cs, hD', hacc⟩ := hP
      obtain ⟨p1, xs, rfl, hp1, hlx, hx⟩ := hv1
      have s02 := s1.trans sm
      have hp1' := s02 _ _ hp1
      walk_at "go"
      refine ⟨p1, rfl, ⟨xs, SqT.of hp1'⟩, fun D2 hD2 => ?_⟩
      refine lc_tup (xs := xs) (fun i H' => Same H2 H' ∧ ∃ ys, H' D2 = some (.lst ys) ∧ Acc RowV H' ys (t1.map fun r => (turnF l t2).map (cellF g r)) i) ⟨Same.updD (Same.refl H2) hD2, [], upd_same, Acc.nil⟩ (fun i H' _ hP => SqT.of (hP.1 _ _ hp1')) (fun i x H' hxi hP => ?_) (fun H' hP => ?_)
      · obtain ⟨sm3, ys, hD2', hacc2⟩ := hP
        have hi : i < t1.length := by
          have := (List.getElem?_eq_some_iff.mp hxi).1
          omega
        have hti : t1[i]? = some t1[i] := List.getElem?_eq_getElem hi
        have hmem := List.getElem_mem hi
        walk_at "go"
        refine ⟨rfl, ?_⟩
        walk_at "go"
        refine ⟨x, t1[i], g, k, rfl, .inl (RowV.kt (hx i x _ hxi hti) (Kt.of (s02.trans sm3))), (h1 _ hmem).2, hk0, by rw [(h1 _ hmem).1]; omega, by omega, by have := (h1 _ hmem).1; omega, fun p4 L4 H4 s4 hL4 h4 h4L => ?_⟩
        walk_at "go"
        have s24 := sm3.trans s4
        refine ⟨g, .ref p4, D, t1[i], turnF l t2, cs, k, rfl, hg, ⟨p4, L4, rfl, h4, h4L⟩, (h1 _ hmem).2, s24 _ _ hD', by rw [hacc.1]; exact hlcx, fun j y s hy hs => ?_, fun s hs => ⟨by rw [(hcols s hs).1, (h1 _ hmem).1], (hcols s hs).2⟩, by rw [(h1 _ hmem).1]; exact hkn, hk, by have := (h1 _ hmem).1; omega, by omega, fun v5 H5 s5 h5 => ?_⟩
        · obtain ⟨pp, LL, e1, _, e2, e3⟩ := hacc.2 j y s hy hs
          exact ⟨pp, LL, e1, s24 _ _ e2, s24 _ _ e3⟩
        · have hD5 := s5 _ _ (s4 _ _ hD2')
          have kt : Kt H' (upd H5 D2 (.lst (ys ++ [v5]))) := (Kt.of (s4.trans s5)).trans (Kt.updL hD5)
          refine ⟨ys, hD5, small1000 (by rw [hacc2.1]; omega), Same.updD ((sm3.trans s4).trans s5) hD2, _, upd_same, ?_⟩
          exact (hacc2.mono fun x a h => RowV.kt h kt).snoc (by rw [List.getElem?_map, hti]; rfl) (RowV.kt h5 (Kt.updL hD5))
      · obtain ⟨sm3, ys, hD2', hacc2⟩ := hP
        walk_at "go"
        refine ⟨_, _, rfl, .inl ⟨SqL.of hD2', fun m hm => ?_⟩⟩
        exact q _ _ (s02.trans (sm3.trans (same_upd hm))) ((hacc2.mono fun x a h => RowV.kt h (Kt.of (same_upd hm))).sq (by rw [List.length_map]; exact hlx) upd_same)
theorem ok_want_rows {f : Addr} {fd : FuncData} (F : FnP K "want_rows" s_want_rows f fd)
    {f_is_row : Addr} {fd_is_row : FuncData} (F_is_row : FnP K "is_row" s_is_row f_is_row fd_is_row) (b_is_row : Binds K fd_is_row ["ground", "thing", "many"] []) (g_is_row : mg "is_row" = some (.ref f_is_row)) (G_is_row : FnOk P w K mg base CX0 3 f_is_row fd_is_row ["ground", "thing", "many"] (sp_is_row K)) (CF : FormC K) (CK : KeeperC K) (m_len : mg "len" = none) :
    FnOk P w K mg base CX0 4 f fd ["form", "things"] (sp_want_rows K) := by
  refine F.ok sc_want_rows (fun vs H Q E h => ?_) (fun cdv A outer s H vs Q E hr h => ?_)
  · obtain ⟨f, tv, g, L, xs, t, rs, m, k, rfl, hf, ht, htl, hm, hL, hacc, hrs, q⟩ := h
    rfl
  · obtain ⟨f, tv, g, L, xs, t, rs, m, k, rfl, hf, ht, htl, hm, hL, hacc, hrs, q⟩ := h
    refine ⟨_, PSs.nox (pss_one (ps_for PassesOwn.never rfl (pi_list (pv 1)) (pg_name (i := 2) sc_want_rows.nd rfl (.inl rfl)) (pss_one (ps_if (pt_not (pt_val (pe_call G_is_row hr (by rfl) g_is_row F_is_row.kp b_is_row .nil pass0 (pa_cons (pe_fld (pv 0) rfl) (pa_cons (pv 2) (pa_cons (pe_callB call_len_seq (by rfl) m_len (by decide +kernel) (pa_cons (pe_fld (pv 0) rfl) pa_nil)) pa_nil)))))) (pss_one ps_never) pss_nil)))), ?_⟩
    obtain ⟨p, ps, rfl, hp, hlp, _⟩ := ht
    walk_at "go"
    refine ⟨L, rfl, ⟨xs, SqL.of hL⟩, ?_⟩
    refine for_list (xs := xs) (fun i σ H' => (∃ y2, σ = [some f, some (.ref L), y2]) ∧ Same H H') ⟨⟨_, rfl⟩, Same.refl H⟩ (fun i σ H' _ hP => SqL.of (hP.2 _ _ hL)) (fun i x σ H' hxi hP => ?_) (fun σ H' hP => ?_)
    · obtain ⟨⟨y2, rfl⟩, sm⟩ := hP
      have hi : i < rs.length := by
        have := (List.getElem?_eq_some_iff.mp hxi).1
        have := hacc.1
        omega
      have gr : rs[i]? = some rs[i] := List.getElem?_eq_getElem hi
      have hr' := hrs _ (List.getElem_mem hi)
      have hx := RowV.kt (hacc.2 i x _ hxi gr) (Kt.of sm)
      walk_at "go"
      refine w_gnd CF (hf.sm sm) ?_
      walk_at "go"
      refine w_tab CF (hf.sm sm) ?_
      walk_at "go"
      refine ⟨p, ps, rfl, .inr (SqT.of (sm _ _ hp)), ?_⟩
      walk_at "go"
      refine ⟨g, x, (ps.length : Int), k, 0, rfl, rowV_tb hx (by omega) hr'.2, fun H1 s1 => ?_⟩
      rw [row_true hx (by omega) (fun c hc => (hr'.2 c hc).num)]
      walk_at "go"
      refine iteF ?_
      walk_at "go"
      exact ⟨⟨_, rfl⟩, sm.trans s1⟩
    · exact q _ hP.2
theorem ok_first_changed {f : Addr} {fd : FuncData} (F : FnP K "first_changed" s_first_changed f fd)
    {f_whole_table : Addr} {fd_whole_table : FuncData} (F_whole_table : FnP K "whole_table" s_whole_table f_whole_table fd_whole_table) (b_whole_table : Binds K fd_whole_table ["table"] []) (g_whole_table : mg "whole_table" = some (.ref f_whole_table)) (G_whole_table : FnOk P w K mg base CX0 3 f_whole_table fd_whole_table ["table"] (sp_whole_table K))
    {f_whole_row : Addr} {fd_whole_row : FuncData} (F_whole_row : FnP K "whole_row" s_whole_row f_whole_row fd_whole_row) (b_whole_row : Binds K fd_whole_row ["row"] []) (g_whole_row : mg "whole_row" = some (.ref f_whole_row)) (G_whole_row : FnOk P w K mg base CX0 2 f_whole_row fd_whole_row ["row"] (sp_whole_row K))
    {f_dot : Addr} {fd_dot : FuncData} (F_dot : FnP K "dot" s_dot f_dot fd_dot) (b_dot : Binds K fd_dot ["wholes", "others"] []) (g_dot : mg "dot" = some (.ref f_dot)) (G_dot : FnOk P w K mg base CX0 1 f_dot fd_dot ["wholes", "others"] (sp_dot K))
    {f_is_nought_on : Addr} {fd_is_nought_on : FuncData} (F_is_nought_on : FnP K "is_nought_on" s_is_nought_on f_is_nought_on fd_is_nought_on) (b_is_nought_on : Binds K fd_is_nought_on ["ground", "whole"] []) (g_is_nought_on : mg "is_nought_on" = some (.ref f_is_nought_on)) (G_is_nought_on : FnOk P w K mg base CX0 1 f_is_nought_on fd_is_nought_on ["ground", "whole"] (sp_is_nought_on K)) (CF : FormC K) (CK : KeeperC K) (m_enumerate : mg "enumerate" = none) (m_range : mg "range" = none) (m_len : mg "len" = none) :
    FnOk P w K mg base CX0 4 f fd ["form", "table"] (sp_first_changed K) := by
  refine F.ok sc_first_changed (fun vs H Q E h => ?_) (fun cdv A outer s H vs Q E hr h => ?_)
  · obtain ⟨g, f, tv, kv, t, T, m, Dt, D, Mt, M, s, A, F', R, W, rfl, hg, hf, ht, hk, htl, hm1, hm, hsy, htz, hTl, hTz, hDt, hD, bDt, bMt, bD, bM, hs4, hs, hA4, hA, hkp, q⟩ := h
    rfl
  · obtain ⟨g, f, tv, kv, t, T, m, Dt, D, Mt, M, s, A, F', R, W, rfl, hg, hf, ht, hk, htl, hm1, hm, hsy, htz, hTl, hTz, hDt, hD, bDt, bMt, bD, bM, hs4, hs, hA4, hA, hkp, q⟩ := h
    refine ⟨_, PSs.nox (pss_cons (ps_set (i := 2) sc_first_changed.nd rfl (.inl rfl) (pe_ix ix_tup (pe_call G_whole_table hr (by rfl) g_whole_table F_whole_table.kp b_whole_table .nil pass0 (pa_cons (pe_fld (pv 0) rfl) pa_nil)) pe_int (fun _ _ => rfl)))
        (pss_cons (ps_setLc (i := 3) (own := [("row", 12)]) (g := gName 12) (tt := tYes) (by rfl) sc_first_changed.nd rfl rfl (sw_true rfl rfl rfl (by decide +kernel)) (pi_tup (pv 1)) (blkOk_by (own := [("row", 12)]) (N := ["form", "table", "shape", "rows", "one", "tops", "bottom", "led", "other", "others", "under", "gap", "row", "column"]) (sc := defScope s_first_changed) (by decide +kernel)) (fun _ _ _ _ _ => (pg_name (i := 12) sc_first_changed.nd rfl (.inl rfl))) (fun _ _ _ _ _ => pts_nil) (fun _ _ _ _ _ => (pe_call G_whole_row (hr.mono (by decide)) (by rfl) g_whole_row F_whole_row.kp b_whole_row .nil pass0 (pa_cons (pv 12) pa_nil))))
        (pss_cons (ps_for PassesOwn.never rfl (pi_enum (by rfl) m_enumerate (pa_cons (pv 3) pa_nil)) (pg_tup rfl (pgs_cons (pg_name (i := 4) sc_first_changed.nd rfl (.inl rfl)) (pgs_cons (pg_tup rfl (pgs_cons (pg_name (i := 5) sc_first_changed.nd rfl (.inr rfl)) (pgs_cons (pg_name (i := 6) sc_first_changed.nd rfl (.inl rfl)) pgs_nil))) pgs_nil))) (pss_cons (ps_setLc (i := 7) (own := [("column", 13)]) (g := gName 13) (tt := tYes) (by rfl) sc_first_changed.nd rfl rfl (sw_true rfl rfl rfl (by decide +kernel)) (pi_list (pv 2)) (blkOk_by (own := [("column", 13)]) (N := ["form", "table", "shape", "rows", "one", "tops", "bottom", "led", "other", "others", "under", "gap", "row", "column"]) (sc := defScope s_first_changed) (by decide +kernel)) (fun _ _ _ _ _ => (pg_name (i := 13) sc_first_changed.nd rfl (.inl rfl))) (fun _ _ _ _ _ => pts_nil) (fun _ _ _ _ _ => (pe_call G_dot (hr.mono (by decide)) (by rfl) g_dot F_dot.kp b_dot .nil pass0 (pa_cons (pv 5) (pa_cons (pv 13) pa_nil)))))
        (pss_one (ps_for PassesOwn.never rfl (pi_range2 (by rfl) m_range (pa_cons (pv 4) (pa_cons (pe_callB call_len_seq (by rfl) m_len (by decide +kernel) (pa_cons (pv 3) pa_nil)) pa_nil))) (pg_name (i := 8) sc_first_changed.nd rfl (.inl rfl)) (pss_cons (ps_asg (pe_ix ix_list (pv 3) (pv 8) (fun _ _ => rfl)) (pg_tup rfl (pgs_cons (pg_name (i := 9) sc_first_changed.nd rfl (.inl rfl)) (pgs_cons (pg_name (i := 10) sc_first_changed.nd rfl (.inl rfl)) pgs_nil))))
        (pss_cons (ps_set (i := 11) sc_first_changed.nd rfl (.inl rfl) (pe_op op_sub (pe_call G_dot (hr.mono (by decide)) (by rfl) g_dot F_dot.kp b_dot .nil pass0 (pa_cons (pv 7) (pa_cons (pv 9) pa_nil))) (pe_op op_mulW (pe_op op_mulW (pe_ix ix_list (pe_ix ix_list (pv 2) (pv 4) (fun _ _ => rfl)) (pv 8) (fun _ _ => rfl)) (pv 6)) (pv 10))))
        (pss_one (ps_if (pt_not (pt_val (pe_call G_is_nought_on (hr.mono (by decide)) (by rfl) g_is_nought_on F_is_nought_on.kp b_is_nought_on .nil pass0 (pa_cons (pe_fld (pv 0) rfl) (pa_cons (pv 11) pa_nil))))) (pss_one (ps_ret (pe_tup (pa_cons (pv 4) (pa_cons (pv 8) pa_nil))))) pss_nil))))))))
        (pss_one (ps_ret pe_non))))), ?_⟩
    have ttn : ∀ r ∈ t, r.length = m ∧ ∀ a ∈ r, TN g (s + 1) a := fun r hr' => ⟨(htz r hr').1, (htz r hr').tn hg (by omega) hDt (pw_lt bDt (by omega)) (pw_lt bMt (by omega))⟩
    have Ttn : ∀ r ∈ T, r.length = m ∧ ∀ a ∈ r, TN g (A + 1) a := fun r hr' => ⟨(hTz r hr').1, (hTz r hr').tn hg (by omega) hD (pw_lt bD (by omega)) (pw_lt bM (by omega))⟩
    have h13 : ∀ {x : Nat}, 4 ≤ x → 13 ≤ 2 ^ x := fun h => Nat.le_trans (show 13 ≤ 2 ^ 4 by decide) (Nat.pow_le_pow_right (by decide) h)
    obtain ⟨wb, wsz⟩ := wt_sz (t := t) (m := m) hg htz hDt bDt bMt (h13 hs4)
    have hB : (t.map (er W)).length = m := by rw [List.length_map]; exact htl
    have hkm : (s + 1) * (m * t.length) ≤ 8000 := Nat.le_trans (Nat.mul_le_mul (show s + 1 ≤ 301 by omega) (Nat.mul_le_mul hm (show t.length ≤ 5 by omega))) (by decide)
    walk_at "go"
    refine w_tab CF hf ?_
    walk_at "go"
    refine ⟨tv, t, g, m, s + 1, rfl, ht, by omega, by omega, hm1, by omega, fun r hr' => ⟨(ttn r hr').1, fun x hx => ((ttn r hr').2 x hx).okn hg⟩, by omega, hkm, by omega, fun p1 L1 ss H1 s1 h1 hL1 hacc1 => ?_⟩
    obtain ⟨pk, ks, rfl, hpk, hlk, hks⟩ := hk
    have hpk1 := s1 _ _ hpk
    have hsl : (wtT m t).length = m := by rw [wt_len, htl]
    walk_at "go"
    refine ⟨pk, rfl, ⟨ks, SqT.of hpk1⟩, fun D2 hD2 => ?_⟩
    refine lc_tup (xs := ks) (fun i H' => Same H1 H' ∧ ∃ cs, H' D2 = some (.lst cs) ∧ Acc (WRn D2) H' cs T i) ⟨Same.updD (Same.refl H1) hD2, [], upd_same, Acc.nil⟩ (fun i H' _ hP => SqT.of (hP.1 _ _ hpk1)) (fun i x H' hxi hP => ?_) (fun H2 hP => ?_)
    · obtain ⟨sm, cs, hD', hacc⟩ := hP
      have hi : i < T.length := by
        have := (List.getElem?_eq_some_iff.mp hxi).1
        omega
      have hti : T[i]? = some T[i] := List.getElem?_eq_getElem hi
      have hmem := List.getElem_mem hi
      walk_at "go"
      refine ⟨rfl, ?_⟩
      walk_at "go"
      refine ⟨x, T[i], g, A + 1, rfl, .inl (RowV.kt (hks i x _ hxi hti) (Kt.of (s1.trans sm))), fun a ha => ((Ttn _ hmem).2 a ha).okn hg, by omega, by rw [(Ttn _ hmem).1]; exact Nat.le_trans (Nat.mul_le_mul (show A + 1 ≤ 1501 by omega) hm) (by decide), by omega, by have := (Ttn _ hmem).1; omega, fun p3 L3 H3 s3 hL3 h3 h3L => ?_⟩
      have h3D := s3 _ _ hD'
      have nL : L3 ≠ D2 := fun e => by
        rw [e, hD'] at hL3
        cases hL3
      refine ⟨cs, h3D, small1000 (by rw [hacc.1]; omega), Same.updD (sm.trans s3) hD2, _, upd_same, ?_⟩
      exact (hacc.mono fun x a h => (h.sm s3).upd h3D).snoc hti (WRn.upd ⟨p3, L3, rfl, nL, h3, h3L⟩ h3D)
    · obtain ⟨sm2, cs, hD2', hacc2⟩ := hP
      have hcl : cs.length = m := by rw [hacc2.1]; omega
      have hL2 := sm2 _ _ hL1
      have hshape : ∀ {H' : Hp}, Same H2 H' → H' L1 = some (.lst ss) ∧ Acc IL H' ss (wtT m t) (wtT m t).length ∧ H' D2 = some (.lst cs) := fun s => ⟨s _ _ hL2, hacc1.mono fun x a h => h.sm (sm2.trans s), s _ _ hD2'⟩
      have hssl : ss.length = m := by rw [hacc1.1, hsl]
      have hcol : ∀ (i : Nat) (c : List Int), (wtT m t)[i]? = some c → c.length = m ∧ fr W c = fun j => W.i (wtB t) * ((t.map (er W)).getD i zr) j := fun i c hc => by
        have hi := (List.getElem?_eq_some_iff.mp hc).1
        rw [wt_len] at hi
        rw [wt_at hi] at hc
        cases Option.some.inj hc
        exact ⟨wt_row (fun r hr' => (ttn r hr').1) hi, by rw [wt_fr hg W ttn (List.getElem?_eq_getElem hi), getD_map (List.getElem?_eq_getElem hi)]⟩
      have hcb : ∀ (i : Nat) (c : List Int), (wtT m t)[i]? = some c → ∀ y ∈ c, y.natAbs ≤ 2 ^ s := fun i c hc => by
        have hi := (List.getElem?_eq_some_iff.mp hc).1
        rw [wt_len] at hi
        rw [wt_at hi] at hc
        cases Option.some.inj hc
        exact wsz i
      walk_at "go"
      refine ⟨D2, cs, rfl, SqL.of hD2', ?_⟩
      refine for_it (walk_enum (xs := cs)) (fun i σ H' => (∃ y4 y5 y6 y7 y8 y9 y10 y11 y12 y13, σ = [some f, some (.ref pk), some (.ref L1), some (.ref D2), y4, y5, y6, y7, y8, y9, y10, y11, y12, y13]) ∧ Same H2 H') ⟨⟨_, _, _, _, _, _, _, _, _, _, rfl⟩, Same.refl _⟩ (fun i σ H' _ hP => SqL.of (hshape hP.2).2.2) (fun i v σ Ha Hb hi hP hY => ?_) (fun σ H' hP => ?_)
      · obtain ⟨⟨y4, y5, y6, y7, y8, y9, y10, y11, y12, y13, rfl⟩, sm⟩ := hP
        obtain ⟨T0, u1, v1, rfl, hT0, rfl, hu1, hv1⟩ := hY
        cases Option.some.inj hu1
        have hi1 : i < T.length := by omega
        have him : i < m := by omega
        have gti : T[i]? = some T[i] := List.getElem?_eq_getElem hi1
        obtain ⟨pr, Lr, rfl, _, hpr, hLr⟩ := hacc2.2 i v1 _ hv1 gti
        have sT : Same Ha (upd Ha T0 (.tup [V.int (i : Nat), V.ref pr])) := same_upd hT0
        have hTT : (upd Ha T0 (.tup [V.int (i : Nat), V.ref pr])) T0 = some (.tup [V.int (i : Nat), V.ref pr]) := upd_same
        generalize upd Ha T0 (.tup [V.int (i : Nat), V.ref pr]) = H3 at sT hTT ⊢
        have s23 := sm.trans sT
        obtain ⟨hL3, hA3, hD3⟩ := hshape s23
        have hpr3 := s23 _ _ hpr
        have hLr3 := s23 _ _ hLr
        have hTi := hTz _ (List.getElem_mem hi1)
        obtain ⟨iwB, iwT⟩ := wr_fr (V := W) hg (Ttn _ (List.getElem_mem hi1)).2
        obtain ⟨bB, bT⟩ := wr_tz hg hTi.2 hD bD bM (h13 hA4)
        have hlT : (wrT T[i]).length = m := by rw [wrT_len, hTi.1]
        walk_at "go"
        refine ⟨L1, rfl, ⟨ss, SqL.of hL3⟩, fun D4 hD4 => ?_⟩
        refine lc_list (xs := ss) (fun j H' => Same H3 H' ∧ H' D4 = some (.lst (((((wtT m t).map (dotF (wrT T[i]))).take j).map V.int)))) ⟨Same.updD (Same.refl H3) hD4, upd_same⟩ (fun j H' _ hP => SqL.of (hP.1 _ _ hL3)) (fun j x H' hxj hP => ?_) (fun H4 hP => ?_)
        · obtain ⟨sm4, hD4'⟩ := hP
          have hj : j < (wtT m t).length := by
            have := (List.getElem?_eq_some_iff.mp hxj).1
            omega
          have gj : (wtT m t)[j]? = some (wtT m t)[j] := List.getElem?_eq_getElem hj
          obtain ⟨px, rfl, hpx⟩ := (hA3.2 j x _ hxj gj).sm sm4
          walk_at "go"
          refine ⟨rfl, ?_⟩
          walk_at "go"
          refine ⟨Lr, px, _, _, rfl, sm4 _ _ hLr3, hpx, by rw [hlT, (hcol j _ gj).1], by omega, fun y hy => pw_le (bT y hy) (by omega), fun y hy => pw_le (hcb j _ gj y hy) (by omega), fun H5 s5 => ?_⟩
          refine ⟨_, s5 _ _ hD4', ?_, Same.updD (sm4.trans s5) hD4, ?_⟩
          · rw [List.length_map, List.length_take]
            exact small1000 (by rw [List.length_map, hsl]; omega)
          · have gz : ((wtT m t).map (dotF (wrT T[i])))[j]? = some (dotF (wrT T[i]) (wtT m t)[j]) := by rw [List.getElem?_map, gj]; rfl
            rw [upd_same, List.take_add_one, gz, List.map_append]
            rfl
        · obtain ⟨sm4, hD4'⟩ := hP
          have e4 : ((wtT m t).map (dotF (wrT T[i]))).take ss.length = (wtT m t).map (dotF (wrT T[i])) := List.take_of_length_le (by rw [List.length_map]; omega)
          rw [e4] at hD4'
          have hledl : ((wtT m t).map (dotF (wrT T[i]))).length = m := by rw [List.length_map, hsl]
          have bled : ∀ x ∈ (wtT m t).map (dotF (wrT T[i])), x.natAbs ≤ 2 ^ (3 + (A + s)) := fun x hx => by
            obtain ⟨c, hc', rfl⟩ := List.mem_map.mp hx
            obtain ⟨k, hk'⟩ := List.getElem?_of_mem hc'
            exact Nat.le_trans (dot_ab hlT (hcol k c hk').1 bT (hcb k c hk')) (pw_mul (Nat.le_trans hm (by decide)) (pw_mul (Nat.le_refl _) (Nat.le_refl _)))
          have s24 := s23.trans sm4
          obtain ⟨hL4, hA4', hD4c⟩ := hshape s24
          walk_at "go"
          refine ⟨D2, cs, rfl, .inl (SqL.of hD4c), ?_⟩
          walk_at "go"
          refine ⟨⟨by omega, by omega, by omega, by omega⟩, ?_⟩
          have sig : (cs.length : Int) - (i : Int) = ((m - i : Nat) : Int) := by omega
          rw [sig, Int.toNat_natCast]
          refine for_range (fun j σ H' => (∃ z8 z9 z10 z11 z12 z13, σ = [some f, some (.ref pk), some (.ref L1), some (.ref D2), some (.int (i : Nat)), some (.ref Lr), some (.int (wrB T[i])), some (.ref D4), z8, z9, z10, z11, z12, z13]) ∧ Same H4 H') ⟨⟨_, _, _, _, _, _, rfl⟩, Same.refl _⟩ (fun j σ H5 hj hP => ?_) (fun σ H' hP => ?_)
          · obtain ⟨⟨z8, z9, z10, z11, z12, z13, rfl⟩, sm5⟩ := hP
            have hjo : i + j < T.length := by omega
            have gto : T[i + j]? = some T[i + j] := List.getElem?_eq_getElem hjo
            have gco : cs[i + j]? = some (cs[i + j]'(by omega)) := List.getElem?_eq_getElem _
            obtain ⟨po, Lo, eo, _, hpo, hLo⟩ := hacc2.2 (i + j) _ _ gco gto
            have s25 := s24.trans sm5
            obtain ⟨hL5, hA5, hD5⟩ := hshape s25
            have hTo := hTz _ (List.getElem_mem hjo)
            obtain ⟨owB, owT⟩ := wr_fr (V := W) hg (Ttn _ (List.getElem_mem hjo)).2
            obtain ⟨oB, oT⟩ := wr_tz hg hTo.2 hD bD bM (h13 hA4)
            have hlo : (wrT T[i + j]).length = m := by rw [wrT_len, hTo.1]
            have eij : (i : Int) + (j : Int) = ((i + j : Nat) : Int) := by omega
            walk_at "go"
            refine w_ixL hD5 (by rw [eij]; exact atI_nat gco) ?_
            rw [eo]
            have hpo5 := s25 _ _ hpo
            have hLo5 := s25 _ _ hLo
            walk_at "go"
            refine ⟨D4, Lo, _, _, rfl, sm5 _ _ hD4', hLo5, by rw [hledl, hlo], by omega, fun y hy => pw_le (bled y hy) (by omega), fun y hy => pw_le (oT y hy) (by omega), fun H6 s6 => ?_⟩
            have s26 := s25.trans s6
            obtain ⟨hL6, hA6, hD6⟩ := hshape s26
            have gsi : ss[i]? = some (ss[i]'(by omega)) := List.getElem?_eq_getElem _
            have gwi : (wtT m t)[i]? = some ((wtT m t)[i]'(by omega)) := List.getElem?_eq_getElem _
            obtain ⟨px, ex, hpx⟩ := hA6.2 i _ _ gsi gwi
            have hwl : i + j < ((wtT m t)[i]'(by omega)).length := by rw [(hcol i _ gwi).1]; omega
            have hga : ((wtT m t)[i]'(by omega))[i + j]? = some (gt ((wtT m t)[i]'(by omega)) (i + j)) := by
              unfold gt
              rw [List.getD_eq_getElem?_getD, List.getElem?_eq_getElem hwl]
              rfl
            walk_at "go"
            refine w_ixL hL6 (atI_nat gsi) ?_
            rw [ex]
            walk_at "go"
            refine w_ixL hpx (by rw [eij]; exact gt_int hwl) ?_
            have bsh : (gt ((wtT m t)[i]'(by omega)) (i + j)).natAbs ≤ 2 ^ s := hcb i _ gwi _ (List.mem_of_getElem? hga)
            walk_at "go"
            refine w_I (mulW_le bsh bB (by omega)) ?_
            walk_at "go"
            refine w_I (mulW_le (pw_abs bsh bB) oB (by omega)) ?_
            walk_at "go"
            refine w_gnd CF (hf.sm (s1.trans (sm2.trans s26))) ?_
            have hval : W.i (dotF ((wtT m t).map (dotF (wrT T[i]))) (wrT T[i + j]) - gt ((wtT m t)[i]'(by omega)) (i + j) * wrB T[i] * wrB T[i + j]) = 0 := by
              refine kept_gap W hB hsy (u := er W T[i]) (v := er W T[i + j]) (β := W.i (wtB t)) (funext iwT) hlT (funext owT) hlo hsl hcol rfl ?_
              have e1 : W.i (gt ((wtT m t)[i]'(by omega)) (i + j)) = W.i (wtB t) * ((t.map (er W)).getD i zr) (i + j) := congrFun (hcol i _ gwi).2 (i + j)
              have e2 := hkp i (i + j) him (by omega)
              rw [getD_map gti, getD_map gto] at e2
              rw [e1, e2]
            walk_at "go"
            refine ⟨g, _, rfl, hg, ?_⟩
            have hn : nghtOn g (dotF ((wtT m t).map (dotF (wrT T[i]))) (wrT T[i + j]) - gt ((wtT m t)[i]'(by omega)) (i + j) * wrB T[i] * wrB T[i + j]) = true := ngt_true W hg hval
            rw [hn]
            walk_at "go"
            exact ⟨⟨_, _, _, _, _, _, rfl⟩, sm5.trans s6⟩
          · obtain ⟨⟨z8, z9, z10, z11, z12, z13, rfl⟩, sm5⟩ := hP
            exact ⟨⟨_, _, _, _, _, _, _, _, _, _, rfl⟩, s24.trans sm5⟩
      · walk_at "go"
        exact q _ (s1.trans (sm2.trans hP.2))
theorem ok_whole_mirrors {f : Addr} {fd : FuncData} (F : FnP K "whole_mirrors" s_whole_mirrors f fd)
    {f_whole_table : Addr} {fd_whole_table : FuncData} (F_whole_table : FnP K "whole_table" s_whole_table f_whole_table fd_whole_table) (b_whole_table : Binds K fd_whole_table ["table"] []) (g_whole_table : mg "whole_table" = some (.ref f_whole_table)) (G_whole_table : FnOk P w K mg base CX0 3 f_whole_table fd_whole_table ["table"] (sp_whole_table K))
    {f_plain : Addr} {fd_plain : FuncData} (F_plain : FnP K "plain" s_plain f_plain fd_plain) (b_plain : Binds K fd_plain ["ground", "row"] []) (g_plain : mg "plain" = some (.ref f_plain)) (G_plain : FnOk P w K mg base CX0 2 f_plain fd_plain ["ground", "row"] (sp_plain K))
    {f_dot : Addr} {fd_dot : FuncData} (F_dot : FnP K "dot" s_dot f_dot fd_dot) (b_dot : Binds K fd_dot ["wholes", "others"] []) (g_dot : mg "dot" = some (.ref f_dot)) (G_dot : FnOk P w K mg base CX0 1 f_dot fd_dot ["wholes", "others"] (sp_dot K))
    {f_table_of_ones : Addr} {fd_table_of_ones : FuncData} (F_table_of_ones : FnP K "table_of_ones" s_table_of_ones f_table_of_ones fd_table_of_ones) (b_table_of_ones : Binds K fd_table_of_ones ["many"] []) (g_table_of_ones : mg "table_of_ones" = some (.ref f_table_of_ones)) (G_table_of_ones : FnOk P w K mg base CX0 1 f_table_of_ones fd_table_of_ones ["many"] (sp_table_of_ones K))
    {f_mirrored : Addr} {fd_mirrored : FuncData} (F_mirrored : FnP K "mirrored" s_mirrored f_mirrored fd_mirrored) (b_mirrored : Binds K fd_mirrored ["line", "by", "led", "worth"] []) (g_mirrored : mg "mirrored" = some (.ref f_mirrored)) (G_mirrored : FnOk P w K mg base CX0 2 f_mirrored fd_mirrored ["line", "by", "led", "worth"] (sp_mirrored K))
    {f_whole_row : Addr} {fd_whole_row : FuncData} (F_whole_row : FnP K "whole_row" s_whole_row f_whole_row fd_whole_row) (b_whole_row : Binds K fd_whole_row ["row"] []) (g_whole_row : mg "whole_row" = some (.ref f_whole_row)) (G_whole_row : FnOk P w K mg base CX0 2 f_whole_row fd_whole_row ["row"] (sp_whole_row K)) (CF : FormC K) (CK : KeeperC K) (m_len : mg "len" = none) :
    FnOk P w K mg base CX0 4 f fd ["form", "rows"] (sp_whole_mirrors K) := by
  refine F.ok sc_whole_mirrors (fun vs H Q E h => ?_) (fun cdv A outer s H vs Q E hr h => ?_)
  · obtain ⟨g, f, tv, L, xs, t, rs, m, Dt, Mt, s, a, k, F', R, W, rfl, hg, hf, ht, htl, hm1, hm, hsy, htz, hDt, bDt, bMt, hs4, hs, hL, hacc, hrs, hk4, hk, hN, hN1, q⟩ := h
    rfl
  · obtain ⟨g, f, tv, L, xs, t, rs, m, Dt, Mt, s, a, k, F', R, W, rfl, hg, hf, ht, htl, hm1, hm, hsy, htz, hDt, bDt, bMt, hs4, hs, hL, hacc, hrs, hk4, hk, hN, hN1, q⟩ := h
    refine ⟨_, PSs.nox (pss_cons (ps_set (i := 2) sc_whole_mirrors.nd rfl (.inl rfl) (pe_ix ix_tup (pe_call G_whole_table hr (by rfl) g_whole_table F_whole_table.kp b_whole_table .nil pass0 (pa_cons (pe_fld (pv 0) rfl) pa_nil)) pe_int (fun _ _ => rfl)))
        (pss_cons (ps_set (i := 3) sc_whole_mirrors.nd rfl (.inl rfl) (pe_ix ix_tup (pe_call G_whole_table hr (by rfl) g_whole_table F_whole_table.kp b_whole_table .nil pass0 (pa_cons (pe_call G_table_of_ones (hr.mono (by decide)) (by rfl) g_table_of_ones F_table_of_ones.kp b_table_of_ones .nil pass0 (pa_cons (pe_callB call_len_seq (by rfl) m_len (by decide +kernel) (pa_cons (pv 2) pa_nil)) pa_nil)) pa_nil)) pe_int (fun _ _ => rfl)))
        (pss_cons (ps_set (i := 4) sc_whole_mirrors.nd rfl (.inl rfl) pe_int)
        (pss_cons (ps_for PassesOwn.never rfl (pi_list (pv 1)) (pg_name (i := 5) sc_whole_mirrors.nd rfl (.inl rfl)) (pss_cons (ps_set (i := 6) sc_whole_mirrors.nd rfl (.inr rfl) (pe_call G_plain (hr.mono (by decide)) (by rfl) g_plain F_plain.kp b_plain .nil pass0 (pa_cons (pe_fld (pv 0) rfl) (pa_cons (pe_ix ix_tup (pe_call G_whole_row (hr.mono (by decide)) (by rfl) g_whole_row F_whole_row.kp b_whole_row .nil pass0 (pa_cons (pv 5) pa_nil)) pe_int (fun _ _ => rfl)) pa_nil))))
        (pss_cons (ps_set (i := 7) sc_whole_mirrors.nd rfl (.inr rfl) (pe_lc (own := [("column", 9)]) (g := gName 9) (tt := tYes) (by rfl) sc_whole_mirrors.nd (pi_list (pv 2)) (blkOk_by (own := [("column", 9)]) (N := ["form", "rows", "shape", "tops", "bottom", "row", "by", "led", "worth", "column", "line"]) (sc := defScope s_whole_mirrors) (by decide +kernel)) (fun _ _ _ _ _ => (pg_name (i := 9) sc_whole_mirrors.nd rfl (.inl rfl))) (fun _ _ _ _ _ => pts_nil) (fun _ _ _ _ _ => (pe_call G_dot (hr.mono (by decide)) (by rfl) g_dot F_dot.kp b_dot .nil pass0 (pa_cons (pv 6) (pa_cons (pv 9) pa_nil))))))
        (pss_cons (ps_set (i := 8) sc_whole_mirrors.nd rfl (.inr rfl) (pe_call G_dot (hr.mono (by decide)) (by rfl) g_dot F_dot.kp b_dot .nil pass0 (pa_cons (pv 6) (pa_cons (pv 7) pa_nil))))
        (pss_cons (ps_setLc (i := 3) (own := [("line", 10)]) (g := gName 10) (tt := tYes) (by rfl) sc_whole_mirrors.nd rfl rfl (sw_true rfl rfl rfl (by decide +kernel)) (pi_list (pv 3)) (blkOk_by (own := [("line", 10)]) (N := ["form", "rows", "shape", "tops", "bottom", "row", "by", "led", "worth", "column", "line"]) (sc := defScope s_whole_mirrors) (by decide +kernel)) (fun _ _ _ _ _ => (pg_name (i := 10) sc_whole_mirrors.nd rfl (.inl rfl))) (fun _ _ _ _ _ => pts_nil) (fun _ _ _ _ _ => (pe_call G_mirrored (hr.mono (by decide)) (by rfl) g_mirrored F_mirrored.kp b_mirrored .nil pass0 (pa_cons (pv 10) (pa_cons (pv 6) (pa_cons (pv 7) (pa_cons (pv 8) pa_nil)))))))
        (pss_one (ps_aug (i := 4) sc_whole_mirrors.nd rfl (.inl rfl) (pv 8) ip_mulW)))))))
        (pss_one (ps_ret (pe_tup (pa_cons (pv 3) (pa_cons (pv 4) pa_nil))))))))), ?_⟩
    have ttn : ∀ r ∈ t, r.length = m ∧ ∀ a ∈ r, TN g (s + 1) a := fun r hr' => ⟨(htz r hr').1, (htz r hr').tn hg (by omega) hDt (pw_lt bDt (by omega)) (pw_lt bMt (by omega))⟩
    obtain ⟨wb, wsz⟩ := wt_sz (t := t) (m := m) hg htz hDt bDt bMt (Nat.le_trans (show 13 ≤ 2 ^ 4 by decide) (Nat.pow_le_pow_right (by decide) hs4))
    have hB : (t.map (er W)).length = m := by rw [List.length_map]; exact htl
    have hkm : (s + 1) * (m * t.length) ≤ 8000 := Nat.le_trans (Nat.mul_le_mul (show s + 1 ≤ 301 by omega) (Nat.mul_le_mul hm (show t.length ≤ 5 by omega))) (by decide)
    have hsl : (wtT m t).length = m := by rw [wt_len, htl]
    have hcol : ∀ (i : Nat) (c : List Int), (wtT m t)[i]? = some c → c.length = m ∧ fr W c = fun j => W.i (wtB t) * ((t.map (er W)).getD i zr) j := fun i c hc => by
      have hi := (List.getElem?_eq_some_iff.mp hc).1
      rw [wt_len] at hi
      rw [wt_at hi] at hc
      cases Option.some.inj hc
      exact ⟨wt_row (fun r hr' => (ttn r hr').1) hi, by rw [wt_fr hg W ttn (List.getElem?_eq_getElem hi), getD_map (List.getElem?_eq_getElem hi)]⟩
    have hcb : ∀ c ∈ wtT m t, ∀ y ∈ c, y.natAbs ≤ 2 ^ s := fun c hc => by
      obtain ⟨i, hi'⟩ := List.getElem?_of_mem hc
      have hi := (List.getElem?_eq_some_iff.mp hi').1
      rw [wt_len] at hi
      rw [wt_at hi] at hi'
      cases Option.some.inj hi'
      exact wsz i
    have hβ : W.i (wtB t) ≠ 0 := wt_ne hg W ttn
    walk_at "go"
    refine w_tab CF hf ?_
    walk_at "go"
    refine ⟨tv, t, g, m, s + 1, rfl, ht, by omega, by omega, hm1, by omega, fun r hr' => ⟨(ttn r hr').1, fun x hx => ((ttn r hr').2 x hx).okn hg⟩, by omega, hkm, by omega, fun p1 L1 ss H1 s1 h1 hL1 hacc1 => ?_⟩
    have hssl : ss.length = m := by rw [hacc1.1, hsl]
    walk_at "go"
    refine ⟨L1, ss, rfl, .inl (SqL.of hL1), ?_⟩
    walk_at "go"
    refine ⟨m, by rw [hssl]; rfl, by omega, fun v2 H2 s2 h2 => ?_⟩
    have hol := ones_len m
    have otn := ones_tn hg m
    walk_at "go"
    refine ⟨v2, onesF m, g, m, 4, rfl, h2, by omega, by omega, hm1, by omega, fun r hr' => ⟨(otn r hr').1, fun x hx => ((otn r hr').2 x hx).okn hg⟩, by decide, Nat.le_trans (Nat.mul_le_mul_left 4 (Nat.mul_le_mul hm (show (onesF m).length ≤ 5 by omega))) (by decide), by decide, fun p3 L3 ts H3 s3 h3 hL3 hacc3 => ?_⟩
    have s03 := s1.trans (s2.trans s3)
    have s13 := s2.trans s3
    walk_at "go"
    refine ⟨L, rfl, ⟨xs, SqL.of (s03 _ _ hL)⟩, ?_⟩
    refine for_list (xs := xs) (fun i σ H' => ∃ (Lt : Addr) (bot : Int) (tops : List (List Int)), (∃ y5 y6 y7 y8 y9 y10, σ = [some f, some (.ref L), some (.ref L1), some (.ref Lt), some (.int bot), y5, y6, y7, y8, y9, y10]) ∧ Same H3 H' ∧ ILs H' (.ref Lt) tops ∧ Wms W (t.map (er W)) m ((rs.take i).map (er W)) bot tops (4 + i * (8 + 2 * a + s))) ⟨L3, 1, wtT m (onesF m), ⟨_, _, _, _, _, _, rfl⟩, Same.refl _, ⟨L3, ts, rfl, hL3, hacc3⟩, by rw [Nat.zero_mul]; exact wms_start hg W _ m⟩ (fun i σ H' _ hP => ?_) (fun i x σ H4 hxi hP => ?_) (fun σ H' hP => ?_)
    · obtain ⟨Lt, bot, tops, _, sm, _⟩ := hP
      exact SqL.of (sm _ _ (s03 _ _ hL))
    · obtain ⟨Lt, bot, tops, ⟨y5, y6, y7, y8, y9, y10, rfl⟩, sm, hT, hw⟩ := hP
      have hi : i < rs.length := by
        have := (List.getElem?_eq_some_iff.mp hxi).1
        have := hacc.1
        omega
      have gr : rs[i]? = some rs[i] := List.getElem?_eq_getElem hi
      obtain ⟨r1, r2, r3, r4⟩ := hrs _ (List.getElem_mem hi)
      obtain ⟨κ, hκ, hby⟩ := plain_fr hg W r2
      have hbl : (plainF g (wrT rs[i])).length = m := by rw [plain_len, wrT_len, r1]
      have hPi : 4 + i * (8 + 2 * a + s) + (8 + 2 * a + s) ≤ 4 + rs.length * (8 + 2 * a + s) := by
        have := Nat.mul_le_mul_right (8 + 2 * a + s) (show i + 1 ≤ rs.length by omega)
        rw [Nat.succ_mul] at this
        omega
      generalize hE : 4 + i * (8 + 2 * a + s) = E at hw hPi
      obtain ⟨hw', bled, bw⟩ := wms_step W hB hsy hm hw r4 hκ hβ hby hbl r3 hsl hcol hcb rfl
      have hledl : ((wtT m t).map (dotF (plainF g (wrT rs[i])))).length = m := by rw [List.length_map, hsl]
      have s04 := s03.trans sm
      walk_at "go"
      refine w_gnd CF (hf.sm s04) ?_
      walk_at "go"
      refine ⟨x, rs[i], g, k, rfl, .inl (RowV.kt (hacc.2 i x _ hxi gr) (Kt.of s04)), fun y hy => (r2 y hy).okn hg, by omega, by rw [r1]; exact Nat.le_trans (Nat.mul_le_mul hk hm) (by decide), by omega, by omega, fun p5 L5 H5 s5 hL5 h5 h5L => ?_⟩
      walk_at "go"
      refine ⟨g, .ref L5, wrT rs[i], 8001, rfl, hg, ⟨L5, rfl, h5L⟩, fun e y hy => ?_, by decide, by decide, by rw [wrT_len]; omega, fun p6 H6 s6 h6 hfr6 => ?_⟩
      · have h7 := wrT_bd (k := k) (r := rs[i]) (fun x hx => (r2 x hx).okn hg) y hy
        refine pw_lt h7 ?_
        have := Nat.mul_le_mul hk (show rs[i].length ≤ 5 by omega)
        omega
      · have s46 := s5.trans s6
        have s36 := sm.trans s46
        have hL16 := (s13.trans s36) _ _ hL1
        have hacc16 := hacc1.mono fun x a h => h.sm (s13.trans s36)
        walk_at "go"
        refine ⟨L1, rfl, ⟨ss, SqL.of hL16⟩, fun D7 hD7 => ?_⟩
        refine lc_list (xs := ss) (fun j H' => Same H6 H' ∧ H' D7 = some (.lst (((((wtT m t).map (dotF (plainF g (wrT rs[i])))).take j).map V.int)))) ⟨Same.updD (Same.refl H6) hD7, upd_same⟩ (fun j H' _ hP => SqL.of (hP.1 _ _ hL16)) (fun j y H' hyj hP => ?_) (fun H7 hP => ?_)
        · obtain ⟨sm7, hD7'⟩ := hP
          have hj : j < (wtT m t).length := by
            have := (List.getElem?_eq_some_iff.mp hyj).1
            omega
          have gj : (wtT m t)[j]? = some (wtT m t)[j] := List.getElem?_eq_getElem hj
          obtain ⟨px, rfl, hpx⟩ := (hacc16.2 j y _ hyj gj).sm sm7
          walk_at "go"
          refine ⟨rfl, ?_⟩
          walk_at "go"
          refine ⟨p6, px, _, _, rfl, sm7 _ _ h6, hpx, by rw [hbl, (hcol j _ gj).1], by omega, fun y hy => pw_le (r3 y hy) (by omega), fun y hy => pw_le (hcb _ (List.getElem_mem hj) y hy) (by omega), fun H8 s8 => ?_⟩
          refine ⟨_, s8 _ _ hD7', ?_, Same.updD (sm7.trans s8) hD7, ?_⟩
          · rw [List.length_map, List.length_take]
            exact small1000 (by rw [List.length_map]; omega)
          · have gz : ((wtT m t).map (dotF (plainF g (wrT rs[i]))))[j]? = some (dotF (plainF g (wrT rs[i])) (wtT m t)[j]) := by rw [List.getElem?_map, gj]; rfl
            rw [upd_same, List.take_add_one, gz, List.map_append]
            rfl
        · obtain ⟨sm7, hD7'⟩ := hP
          have e7 : ((wtT m t).map (dotF (plainF g (wrT rs[i])))).take ss.length = (wtT m t).map (dotF (plainF g (wrT rs[i]))) := List.take_of_length_le (by rw [List.length_map]; omega)
          rw [e7] at hD7'
          generalize hled : (wtT m t).map (dotF (plainF g (wrT rs[i]))) = led at hw' bled bw hledl hD7'
          generalize hbyg : plainF g (wrT rs[i]) = by_ at hw' bw hbl r3 h6
          walk_at "go"
          refine ⟨p6, D7, by_, led, rfl, sm7 _ _ h6, hD7', by rw [hbl, hledl], by omega, fun y hy => pw_le (r3 y hy) (by omega), fun y hy => pw_le (bled y hy) (by omega), fun H8 s8 => ?_⟩
          have s48 := s46.trans (sm7.trans s8)
          obtain ⟨Lt', ts', eLt, hLt, haccT⟩ := hT.sm s48
          cases eLt
          have h68 := s8 _ _ (sm7 _ _ h6)
          have hD78 := s8 _ _ hD7'
          walk_at "go"
          refine ⟨Lt, rfl, ⟨ts', SqL.of hLt⟩, fun D9 hD9 => ?_⟩
          refine lc_list (xs := ts') (fun j H' => Same H8 H' ∧ ∃ zs, H' D9 = some (.lst zs) ∧ Acc (ILn D9) H' zs (tops.map fun l => mirdF l by_ (dotF by_ led) (2 * dotF l led)) j) ⟨Same.updD (Same.refl H8) hD9, [], upd_same, Acc.nil⟩ (fun j H' _ hP => SqL.of (hP.1 _ _ hLt)) (fun j y H' hyj hP => ?_) (fun H9 hP => ?_)
          · obtain ⟨sm9, zs, hD9', hz⟩ := hP
            have hj : j < tops.length := by
              have := (List.getElem?_eq_some_iff.mp hyj).1
              have := haccT.1
              omega
            have gj : tops[j]? = some tops[j] := List.getElem?_eq_getElem hj
            obtain ⟨px, rfl, hpx⟩ := (haccT.2 j y _ hyj gj).sm sm9
            obtain ⟨t1, t2⟩ := hw.row _ (List.getElem_mem hj)
            walk_at "go"
            refine ⟨rfl, ?_⟩
            walk_at "go"
            refine ⟨px, p6, D7, tops[j], by_, led, _, m, E, a, 3 + (a + s), 6 + 2 * a + s, rfl, hpx, sm9 _ _ h68, sm9 _ _ hD78, t1, hbl, hledl, by omega, t2, r3, bled, bw, by omega, by omega, by omega, by omega, fun p10 H10 s10 hp10 h10 => ?_⟩
            have hD10 := s10 _ _ hD9'
            have np : p10 ≠ D9 := fun e => by rw [e, hD9'] at hp10; cases hp10
            refine ⟨zs, hD10, small1000 (by rw [hz.1]; have := hw.len; omega), Same.updD (sm9.trans s10) hD9, _, upd_same, ?_⟩
            exact (hz.mono fun x a h => (h.sm s10).upd).snoc (by rw [List.getElem?_map, gj]; rfl) (ILn.upd ⟨p10, rfl, np, h10⟩)
          · obtain ⟨sm9, zs, hD9', hz⟩ := hP
            walk_at "go"
            unfold Ends.nx
            refine w_aug (i := 4) (x := .int bot) (by rfl) ?_
            walk_at "go"
            refine ⟨_, _, rfl, rfl, mulW_le hw.bb bw (by omega), ?_⟩
            refine ⟨D9, _, tops.map fun l => mirdF l by_ (dotF by_ led) (2 * dotF l led), ⟨_, _, _, _, _, _, rfl⟩, sm.trans (s48.trans sm9), ⟨D9, zs, rfl, hD9', ?_⟩, ?_⟩
            · rw [List.length_map, hw.len]
              have e9 : ts'.length = m := by rw [haccT.1, hw.len]
              rw [e9] at hz
              exact acc_imp hz fun x a h => ILn.il h
            · rw [Nat.succ_mul, ← Nat.add_assoc, hE, List.take_add_one, gr, List.map_append]
              exact hw'
    · obtain ⟨Lt, bot, tops, ⟨y5, y6, y7, y8, y9, y10, rfl⟩, sm, hT, hw⟩ := hP
      rw [hacc.1, List.take_length] at hw
      walk_at "go"
      refine w_new (by simp) fun p5 H5 hp5 s5 h5 => ?_
      exact q p5 Lt bot tops H5 (s03.trans (sm.trans s5)) h5 (hT.sm s5) hw
theorem ok__law_sum {f : Addr} {fd : FuncData} (F : FnP K "_law_sum" s__law_sum f fd)
    {f__law_plus : Addr} {fd__law_plus : FuncData} (F__law_plus : FnP K "_law_plus" s__law_plus f__law_plus fd__law_plus) (b__law_plus : Binds K fd__law_plus ["_law_g", "_law_x", "_law_y"] []) (g__law_plus : mg "_law_plus" = some (.ref f__law_plus)) (G__law_plus : FnOk P w K mg base CX0 3 f__law_plus fd__law_plus ["_law_g", "_law_x", "_law_y"] (sp__law_plus K)) :
    FnOk P w K mg base CX0 4 f fd ["_law_g", "_law_some"] (sp__law_sum K) := by
  refine F.ok sc__law_sum (fun vs H Q E h => ?_) (fun cdv A outer s H vs Q E hr h => ?_)
  · obtain ⟨g, L, xs, as, D, M, k, F', R, W, rfl, hg, hL, hacc, has, hD0, hD, hM, hk4, hk, q⟩ := h
    rfl
  · obtain ⟨g, L, xs, as, D, M, k, F', R, W, rfl, hg, hL, hacc, has, hD0, hD, hM, hk4, hk, q⟩ := h
    refine ⟨_, PSs.nox (pss_cons (ps_set (i := 2) sc__law_sum.nd rfl (.inl rfl) (pe_tup (pa_cons pe_int (pa_cons pe_int pa_nil))))
        (pss_cons (ps_for PassesOwn.never rfl (pi_list (pv 1)) (pg_name (i := 3) sc__law_sum.nd rfl (.inl rfl)) (pss_one (ps_set (i := 2) sc__law_sum.nd rfl (.inl rfl) (pe_call G__law_plus hr (by rfl) g__law_plus F__law_plus.kp b__law_plus .nil pass0 (pa_cons (pv 0) (pa_cons (pv 2) (pa_cons (pv 3) pa_nil)))))))
        (pss_one (ps_ret (pv 2))))), ?_⟩
    have ⟨hg0, hg13⟩ := grb hg
    walk_at "go"
    refine w_new (by simp) fun p1 H1 hp1 s1 h1 => ?_
    walk_at "go"
    refine ⟨L, rfl, ⟨xs, SqL.of (s1 _ _ hL)⟩, ?_⟩
    refine for_list (xs := xs) (fun i σ H' => Same H H' ∧ ∃ v y d, σ = [some (.int g), some (.ref L), some v, y] ∧ NumV H' v d ∧ TZ g D (i * M) d ∧ W.e d = SF (fun i => W.e (as.getD i (0, 1))) i) ⟨s1, _, _, (0, 1), rfl, ⟨p1, rfl, h1⟩, TZ.zero hg _ _, W.zero⟩ (fun i σ H' _ hP => SqL.of (hP.1 _ _ hL)) (fun i x σ H' hxi hP => ?_) (fun σ H' hP => ?_)
    · obtain ⟨sm, v, y, d, rfl, hv, td, ed⟩ := hP
      have hi : i < as.length := by
        have := (List.getElem?_eq_some_iff.mp hxi).1
        have := hacc.1
        omega
      have hai : as[i]? = some as[i] := List.getElem?_eq_getElem hi
      have ta := has _ (List.getElem_mem hi)
      have him : i * M ≤ (as.length + 1) * M := Nat.mul_le_mul_right _ (by omega)
      have h1m : 1 * M ≤ (as.length + 1) * M := Nat.mul_le_mul_right _ (by omega)
      walk_at "go"
      refine ⟨g, v, x, d, as[i], rfl, hg0, hg13, hv, (hacc.2 i x _ hxi hai).kt (Kt.of sm), (td.tn hg hk4 hD0 hD (by omega)).be hk, (ta.tn hg hk4 hD0 hD (by omega)).be hk, fun p2 H2 hp2 s2 h2 => ?_⟩
      walk_at "go"
      refine ⟨sm.trans s2, _, _, _, rfl, ⟨p2, rfl, h2⟩, ?_, ?_⟩
      · rw [Nat.succ_mul]
        exact td.plus hg ta
      · obtain ⟨⟨l, _, hl⟩, _⟩ := td
        obtain ⟨⟨m, _, hm⟩, _⟩ := ta
        rw [W.plus hg hl hm, ed]
        show _ = SF (fun i => W.e (as.getD i (0, 1))) i + W.e (as.getD i (0, 1))
        rw [List.getD_eq_getElem?_getD (i := i), hai]
        rfl
    · obtain ⟨sm, v, y, d, rfl, hv, td, ed⟩ := hP
      have hlx : xs.length = as.length := hacc.1
      rw [hlx] at td ed
      walk_at "go"
      exact q _ _ d sm hv td ed
theorem ok__law_scaled {f : Addr} {fd : FuncData} (F : FnP K "_law_scaled" s__law_scaled f fd)
    {f__law_times : Addr} {fd__law_times : FuncData} (F__law_times : FnP K "_law_times" s__law_times f__law_times fd__law_times) (b__law_times : Binds K fd__law_times ["_law_g", "_law_x", "_law_y"] []) (g__law_times : mg "_law_times" = some (.ref f__law_times)) (G__law_times : FnOk P w K mg base CX0 3 f__law_times fd__law_times ["_law_g", "_law_x", "_law_y"] (sp__law_times K)) (m_tuple : mg "tuple" = none) :
    FnOk P w K mg base CX0 4 f fd ["_law_g", "_law_row_here", "_law_x"] (sp__law_scaled K) := by
  refine F.ok sc__law_scaled (fun vs H Q E h => ?_) (fun cdv A outer s H vs Q E hr h => ?_)
  · obtain ⟨g, x, y, r, c, rfl, hg0, hg, hx, hy, hn, hgx, hgc, q⟩ := h
    rfl
  · obtain ⟨g, x, y, r, c, rfl, hg0, hg, hx, hy, hn, hgx, hgc, q⟩ := h
    refine ⟨_, PSs.nox (pss_one (ps_ret (pe_callTy call_tuple_of (by rfl) m_tuple (by decide +kernel) (pa_cons (pe_lc (own := [("_law_one", 3)]) (g := gName 3) (tt := tYes) (by rfl) sc__law_scaled.nd (pi_tup (pv 1)) (blkOk_by (own := [("_law_one", 3)]) (N := ["_law_g", "_law_row_here", "_law_x", "_law_one"]) (sc := defScope s__law_scaled) (by decide +kernel)) (fun _ _ _ _ _ => (pg_name (i := 3) sc__law_scaled.nd rfl (.inl rfl))) (fun _ _ _ _ _ => pts_nil) (fun _ _ _ _ _ => (pe_call G__law_times hr (by rfl) g__law_times F__law_times.kp b__law_times .nil pass0 (pa_cons (pv 0) (pa_cons (pv 3) (pa_cons (pv 2) pa_nil)))))) pa_nil)))), ?_⟩
    obtain ⟨px, xs, rfl, hpx, hlx, hxs⟩ := hx
    walk_at "go"
    refine ⟨px, rfl, ⟨xs, SqT.of hpx⟩, fun D hD => ?_⟩
    refine lc_tup (xs := xs) (fun i H' => Same H H' ∧ ∃ zs : List V, H' D = some (.lst zs) ∧ Acc NumV H' zs (r.map fun a => timesF g a c) i) ⟨Same.updD (Same.refl H) hD, [], upd_same, Acc.nil⟩ (fun i H' _ hP => SqT.of (hP.1 _ _ hpx)) (fun i x H1 hxi hP => ?_) (fun H' hP => ?_)
    · obtain ⟨sm, zs, hzs, hz⟩ := hP
      have hi : i < r.length := by
        have := (List.getElem?_eq_some_iff.mp hxi).1
        omega
      have gr : r[i]? = some r[i] := List.getElem?_eq_getElem hi
      walk_at "go"
      refine ⟨rfl, ?_⟩
      walk_at "go"
      refine ⟨g, x, y, _, c, rfl, hg0, hg, (hxs i x _ hxi gr).kt (Kt.of sm), hy.kt (Kt.of sm), hgx _ (List.getElem_mem hi), hgc, fun p3 H3 hp3 s3 h3 => ?_⟩
      have h3D := s3 _ _ hzs
      have kt : Kt H1 (upd H3 D (.lst (zs ++ [V.ref p3]))) := (Kt.of s3).trans (Kt.updL h3D)
      refine ⟨zs, h3D, small1000 (by rw [hz.1]; omega), Same.updD (sm.trans s3) hD, _, upd_same, ?_⟩
      exact (hz.mono fun x a h => NumV.kt h kt).snoc (a := timesF g r[i] c) (by rw [List.getElem?_map, gr]; rfl) ⟨p3, rfl, Kt.updL h3D _ _ h3⟩
    · obtain ⟨sm, zs, hzs, hz⟩ := hP
      walk_at "go"
      refine ⟨D, zs, rfl, .inl ⟨SqL.of hzs, fun l hl' => ?_⟩⟩
      exact q _ _ (sm.trans (same_upd hl')) ((hz.mono fun x a h => NumV.kt h (Kt.of (same_upd hl'))).sq (by rw [List.length_map]; exact hlx) upd_same)
theorem ok__law_added {f : Addr} {fd : FuncData} (F : FnP K "_law_added" s__law_added f fd)
    {f__law_plus : Addr} {fd__law_plus : FuncData} (F__law_plus : FnP K "_law_plus" s__law_plus f__law_plus fd__law_plus) (b__law_plus : Binds K fd__law_plus ["_law_g", "_law_x", "_law_y"] []) (g__law_plus : mg "_law_plus" = some (.ref f__law_plus)) (G__law_plus : FnOk P w K mg base CX0 3 f__law_plus fd__law_plus ["_law_g", "_law_x", "_law_y"] (sp__law_plus K)) (m_tuple : mg "tuple" = none) (m_zip : mg "zip" = none) :
    FnOk P w K mg base CX0 4 f fd ["_law_g", "_law_row_here", "_law_other"] (sp__law_added K) := by
  refine F.ok sc__law_added (fun vs H Q E h => ?_) (fun cdv A outer s H vs Q E hr h => ?_)
  · obtain ⟨g, x, y, rx, ry, rfl, hg0, hg, hx, hy, hl, hn, hgx, hgy, q⟩ := h
    rfl
  · obtain ⟨g, x, y, rx, ry, rfl, hg0, hg, hx, hy, hl, hn, hgx, hgy, q⟩ := h
    refine ⟨_, PSs.nox (pss_one (ps_ret (pe_callTy call_tuple_of (by rfl) m_tuple (by decide +kernel) (pa_cons (pe_lc (own := [("_law_one", 3), ("_law_two", 4)]) (g := gTup K 2 (gCons (gName 3) (gCons (gName 4) (gNil)))) (tt := tYes) (by rfl) sc__law_added.nd (RZ.pi_zipA (by rfl) m_zip (pa_cons (pv 1) (pa_cons (pv 2) pa_nil))) (blkOk_by (own := [("_law_one", 3), ("_law_two", 4)]) (N := ["_law_g", "_law_row_here", "_law_other", "_law_one", "_law_two"]) (sc := defScope s__law_added) (by decide +kernel)) (fun _ _ _ _ _ => (pg_tup rfl (pgs_cons (pg_name (i := 3) sc__law_added.nd rfl (.inl rfl)) (pgs_cons (pg_name (i := 4) sc__law_added.nd rfl (.inl rfl)) pgs_nil)))) (fun _ _ _ _ _ => pts_nil) (fun _ _ _ _ _ => (pe_call G__law_plus hr (by rfl) g__law_plus F__law_plus.kp b__law_plus .nil pass0 (pa_cons (pv 0) (pa_cons (pv 3) (pa_cons (pv 4) pa_nil)))))) pa_nil)))), ?_⟩
    obtain ⟨px, xs, rfl, hpx, hlx, hxs⟩ := hx
    obtain ⟨py, ys, rfl, hpy, hly, hys⟩ := hy
    walk_at "go"
    refine ⟨px, py, xs, ys, rfl, .inr ⟨SqT.of hpx, SqT.of hpy, fun D hD => ?_⟩⟩
    refine lc_it (walk_zipT (xs := xs) (ys := ys) (n := rx.length) (by omega)) (fun i H' => Same H H' ∧ ∃ zs : List V, H' D = some (.lst zs) ∧ Acc NumV H' zs (List.zipWith (plusF g) rx ry) i) ⟨Same.updD (Same.refl H) hD, [], upd_same, Acc.nil⟩ (fun i H' _ hP => ⟨SqT.of (hP.1 _ _ hpx), SqT.of (hP.1 _ _ hpy)⟩) (fun i v H1 H2 hi hP hY => ?_) (fun H' hP => ?_)
    · obtain ⟨sm, zs, hzs, hz⟩ := hP
      obtain ⟨T, u, v', rfl, hT, rfl, hu, hv⟩ := hY
      have s2 : Same H1 (upd H1 T (.tup [u, v'])) := same_upd hT
      have hTT : (upd H1 T (.tup [u, v'])) T = some (.tup [u, v']) := upd_same
      generalize upd H1 T (.tup [u, v']) = H2 at s2 hTT ⊢
      have ga : rx[i]? = some (rx[i]'(by omega)) := List.getElem?_eq_getElem (by omega)
      have gc : ry[i]? = some (ry[i]'(by omega)) := List.getElem?_eq_getElem (by omega)
      have na := hgx _ (List.getElem_mem (show i < rx.length by omega))
      have nc := hgy _ (List.getElem_mem (show i < ry.length by omega))
      walk_at "go"
      refine ⟨rfl, ?_⟩
      walk_at "go"
      have s02 := sm.trans s2
      refine ⟨g, u, v', _, _, rfl, hg0, hg, (hxs i u _ hu ga).kt (Kt.of s02), (hys i v' _ hv gc).kt (Kt.of s02), na, nc, fun p3 H3 hp3 s3 h3 => ?_⟩
      have h3D := s3 _ _ (s2 _ _ hzs)
      have kt : Kt H1 (upd H3 D (.lst (zs ++ [V.ref p3]))) := (Kt.of (s2.trans s3)).trans (Kt.updL h3D)
      refine ⟨zs, h3D, small1000 (by rw [hz.1]; omega), Same.updD (s02.trans s3) hD, _, upd_same, ?_⟩
      exact (hz.mono fun x a h => NumV.kt h kt).snoc (a := plusF g (rx[i]'(by omega)) (ry[i]'(by omega))) (by rw [List.getElem?_zipWith, ga, gc]) ⟨p3, rfl, Kt.updL h3D _ _ h3⟩
    · obtain ⟨sm, zs, hzs, hz⟩ := hP
      walk_at "go"
      refine ⟨D, zs, rfl, .inl ⟨SqL.of hzs, fun l hl' => ?_⟩⟩
      exact q _ _ (sm.trans (same_upd hl')) ((hz.mono fun x a h => NumV.kt h (Kt.of (same_upd hl'))).sq (by rw [List.length_zipWith]; omega) upd_same)
theorem ok__law_other_than_nought {f : Addr} {fd : FuncData} (F : FnP K "_law_other_than_nought" s__law_other_than_nought f fd)
    {f__law_number : Addr} {fd__law_number : FuncData} (F__law_number : FnP K "_law_number" s__law_number f__law_number fd__law_number) (b__law_number : Binds K fd__law_number ["_law_bag_here", "_law_g"] []) (g__law_number : mg "_law_number" = some (.ref f__law_number)) (G__law_number : FnOk P w K mg base CX0 3 f__law_number fd__law_number ["_law_bag_here", "_law_g"] (sp__law_number K)) (m_int : mg "int" = none) :
    FnOk P w K mg base CX0 4 f fd ["_law_bag_here", "_law_g"] (sp__law_other_than_nought K) := by
  refine F.ok sc__law_other_than_nought (fun vs H Q E h => ?_) (fun cdv A outer s H vs Q E hr h => ?_)
  · obtain ⟨b, g, rfl, hgr, hb, q⟩ := h
    rfl
  · obtain ⟨b, g, rfl, hgr, hb, q⟩ := h
    refine ⟨_, PSs.nox (pss_cons (ps_set (i := 2) sc__law_other_than_nought.nd rfl (.inl rfl) (pe_call G__law_number hr (by rfl) g__law_number F__law_number.kp b__law_number .nil pass0 (pa_cons (pv 0) (pa_cons (pv 1) pa_nil))))
        (pss_one (ps_ret (pe_ix ix_list (pe_lst (pa_cons (pv 2) (pa_cons (pe_tup (pa_cons pe_int (pa_cons pe_int pa_nil))) pa_nil))) (pe_callTy call_int1 (by rfl) m_int (by decide +kernel) (pa_cons (pe_cmpR (op_eqD hr.units) (pv 2) (pe_tup (pa_cons pe_int (pa_cons pe_int pa_nil))) (nomark _)) pa_nil)) (fun _ _ => rfl))))), ?_⟩
    have hg3 := hgr.three
    walk_at "go"
    refine ⟨b, g, rfl, hgr, hb, fun H1 v a hv hng ta m1 hb1 => ?_⟩
    obtain ⟨pv', rfl, hpv⟩ := hv
    walk_at "go"
    refine w_new (by simp) fun p2 H2 hp2 s2 h2 => ?_
    walk_at "go"
    refine w_new (by simp) fun p3 H3 hp3 s3 h3 => ?_
    walk_at "go"
    refine w_new (by simp) fun p4 H4 hp4 s4 h4 => ?_
    have s24 := s2.trans (s3.trans s4)
    have hpv4 := s24 _ _ hpv
    refine w_eqNum ⟨pv', rfl, hpv4⟩ (b := (0, 1)) ⟨p4, rfl, h4⟩ ?_
    walk_at "go"
    refine .inr ⟨_, rfl, ?_⟩
    refine w_ixL (s4 _ _ h3) pick_two ?_
    by_cases e : a = (0, 1)
    · rw [decide_eq_true e, if_pos rfl]
      exact q _ _ (1, 1) ⟨p2, rfl, s4 _ _ (s3 _ _ h2)⟩ ⟨by decide, by decide, by decide, hg3.imp id fun h => ⟨h.1, h.2, rfl⟩⟩ ((tn_one hgr.two).mono (by decide)) (by decide) (m1.trans (Mv.same s24)) (hb1.same s24)
    · rw [decide_eq_false e, if_neg Bool.false_ne_true]
      exact q _ _ a ⟨pv', rfl, hpv4⟩ hng ta (fun z => e (ta.zero.mp z)) (m1.trans (Mv.same s24)) (hb1.same s24)
theorem ok__law_row {f : Addr} {fd : FuncData} (F : FnP K "_law_row" s__law_row f fd)
    {f__law_number : Addr} {fd__law_number : FuncData} (F__law_number : FnP K "_law_number" s__law_number f__law_number fd__law_number) (b__law_number : Binds K fd__law_number ["_law_bag_here", "_law_g"] []) (g__law_number : mg "_law_number" = some (.ref f__law_number)) (G__law_number : FnOk P w K mg base CX0 3 f__law_number fd__law_number ["_law_bag_here", "_law_g"] (sp__law_number K)) (m_tuple : mg "tuple" = none) (m_range : mg "range" = none) :
    FnOk P w K mg base CX0 4 f fd ["_law_bag_here", "_law_g", "_law_many"] (sp__law_row K) := by
  refine F.ok sc__law_row (fun vs H Q E h => ?_) (fun cdv A outer s H vs Q E hr h => ?_)
  · obtain ⟨b, g, m, rfl, hgr, hm0, hm, hb, q⟩ := h
    rfl
  · obtain ⟨b, g, m, rfl, hgr, hm0, hm, hb, q⟩ := h
    refine ⟨_, PSs.nox (pss_one (ps_ret (pe_callTy call_tuple_of (by rfl) m_tuple (by decide +kernel) (pa_cons (pe_lc (own := [("_law_k", 3)]) (g := gName 3) (tt := tYes) (by rfl) sc__law_row.nd (pi_range1 (by rfl) m_range (pa_cons (pv 2) pa_nil)) (blkOk_by (own := [("_law_k", 3)]) (N := ["_law_bag_here", "_law_g", "_law_many", "_law_k"]) (sc := defScope s__law_row) (by decide +kernel)) (fun _ _ _ _ _ => (pg_name (i := 3) sc__law_row.nd rfl (.inl rfl))) (fun _ _ _ _ _ => pts_nil) (fun _ _ _ _ _ => (pe_call G__law_number hr (by rfl) g__law_number F__law_number.kp b__law_number .nil pass0 (pa_cons (pv 0) (pa_cons (pv 1) pa_nil))))) pa_nil)))), ?_⟩
    walk_at "go"
    refine ⟨by omega, by omega, fun D hD => ?_⟩
    have nD := bag_ne hb hD
    refine lc_range (fun i H' => Mv b H H' ∧ Bag H' b ∧ ∃ (xs : List V) (r : List (Int × Int)), H' D = some (.lst xs) ∧ r.length = i ∧ Acc NumV H' xs r i ∧ ∀ a ∈ r, NG g 0 a ∧ TN g 7 a) ⟨(Mv.refl b H).updD hD, hb.upd nD, [], [], upd_same, rfl, Acc.nil, fun x hx => nomatch hx⟩ (fun i H' hi hP => ?_) (fun H' hP => ?_)
    · obtain ⟨mv, hbi, xs, r, hxs, hl, hx, ht⟩ := hP
      walk_at "go"
      refine ⟨rfl, ?_⟩
      walk_at "go"
      refine ⟨b, g, rfl, hgr, hbi, fun H2 v a hv hng ha m2 hb2 => ?_⟩
      have h2D := m2 _ _ nD hxs
      refine ⟨xs, h2D, small1000 (by rw [hx.1]; omega), (mv.trans m2).updD hD, hb2.upd nD, xs ++ [v], r ++ [a], upd_same, by rw [List.length_append, hl]; rfl, acc_app (hx.mono fun x a h => (h.kt (m2.kt hbi)).kt (Kt.updL h2D)) hl (hv.kt (Kt.updL h2D)), fun x hx' => ?_⟩
      rcases List.mem_append.mp hx' with h | h
      · exact ht x h
      · rw [List.mem_singleton.mp h]
        exact ⟨hng, ha⟩
    · obtain ⟨mv, hbi, xs, r, hxs, hl, hx, ht⟩ := hP
      walk_at "go"
      refine ⟨D, xs, rfl, .inl ⟨SqL.of hxs, fun l hl' => ?_⟩⟩
      exact q _ _ r ((hx.mono fun x a h => NumV.kt h (Kt.of (same_upd hl'))).sq hl.symm upd_same) hl ht (mv.trans (Mv.same (same_upd hl'))) (hbi.same (same_upd hl'))
theorem ok_through {f : Addr} {fd : FuncData} (F : FnP K "through" s_through f fd)
    {f_product : Addr} {fd_product : FuncData} (F_product : FnP K "product" s_product f_product fd_product) (b_product : Binds K fd_product ["ground", "one", "other"] []) (g_product : mg "product" = some (.ref f_product)) (G_product : FnOk P w K mg base CX0 4 f_product fd_product ["ground", "one", "other"] (sp_product K)) :
    FnOk P w K mg base CX0 5 f fd ["ground", "row", "table"] (sp_through K) := by
  refine F.ok sc_through (fun vs H Q E h => ?_) (fun cdv A outer s H vs Q E hr h => ?_)
  · obtain ⟨g, x, y, r, t, n, Dr, Dt, Mr, Mt, k, F', R, W, rfl, hg, hx, hy, hrz, htl, htz, hn1, hn, hDr, hDt, bDr, bDt, bMr, bMt, hk4, hk, q⟩ := h
    rfl
  · obtain ⟨g, x, y, r, t, n, Dr, Dt, Mr, Mt, k, F', R, W, rfl, hg, hx, hy, hrz, htl, htz, hn1, hn, hDr, hDt, bDr, bDt, bMr, bMt, hk4, hk, q⟩ := h
    refine ⟨_, PSs.nox (pss_one (ps_ret (pe_ix ix_tup (pe_call G_product hr (by rfl) g_product F_product.kp b_product .nil pass0 (pa_cons (pv 0) (pa_cons (pe_tup (pa_cons (pv 1) pa_nil)) (pa_cons (pv 2) pa_nil)))) pe_int (fun _ _ => rfl)))), ?_⟩
    have hg3 : g = 0 ∨ (3 ≤ g ∧ g ≤ 13) := by unfold Gr5 at hg; omega
    have hkm : k * n ≤ 4000 := Nat.le_trans (Nat.mul_le_mul hk hn) (by decide)
    have ok : ∀ {D : Int} {M n : Nat} {r : List (Int × Int)}, RZ g D M n r → D ≠ 0 → D.natAbs < 2 ^ k → M < 2 ^ k → r.length = n ∧ ∀ c ∈ r, OkN g k c := fun h h0 h1 h2 => ⟨h.1, fun c hc => ((h.2 c hc).tn hg hk4 h0 h1 h2).okn hg⟩
    walk_at "go"
    refine w_new (by simp) fun p1 H1 hp1 s1 h1' => ?_
    walk_at "go"
    refine ⟨g, .ref p1, y, [r], t, n, n, k, rfl, hg3, sqv1 h1' (RowV.kt hx (Kt.of s1)), TabV.kt hy (Kt.of s1), fun r' h => (by rw [List.mem_singleton.mp h]; exact ok hrz hDr bDr bMr), htl, fun r' h => ok (htz r' h) hDt bDt bMt, by omega, by omega, by omega, (by simp), by omega, hkm, hk, fun v3 H3 s3 h3 => ?_⟩
    obtain ⟨p3, ys, rfl, hp3, hly, hy⟩ := h3
    have hl1 : ys.length = 1 := by rw [hly]; rfl
    obtain ⟨y, hy0⟩ : ∃ y, ys[0]? = some y := ⟨_, List.getElem?_eq_getElem (by omega)⟩
    walk_at "go"
    refine w_ixT hp3 (atI_nat (j := 0) hy0) ?_
    obtain ⟨pz, pe⟩ := prod_tz2 (V := W) (t1 := [r]) hg htl (fun q' hq' => by rw [List.mem_singleton.mp hq']; exact hrz) htz
    refine q _ _ _ (s1.trans s3) (hy 0 y _ hy0 rfl) (pz _ (by simp)) ?_
    exact (List.cons.inj pe).1
theorem ok_is_form_table {f : Addr} {fd : FuncData} (F : FnP K "is_form_table" s_is_form_table f fd)
    {f_is_table : Addr} {fd_is_table : FuncData} (F_is_table : FnP K "is_table" s_is_table f_is_table fd_is_table) (b_is_table : Binds K fd_is_table ["ground", "thing", "high", "wide"] []) (g_is_table : mg "is_table" = some (.ref f_is_table)) (G_is_table : FnOk P w K mg base CX0 4 f_is_table fd_is_table ["ground", "thing", "high", "wide"] (sp_is_table K))
    {f_turned : Addr} {fd_turned : FuncData} (F_turned : FnP K "turned" s_turned f_turned fd_turned) (b_turned : Binds K fd_turned ["table"] []) (g_turned : mg "turned" = some (.ref f_turned)) (G_turned : FnOk P w K mg base CX0 1 f_turned fd_turned ["table"] (sp_turned K))
    {f_determinant : Addr} {fd_determinant : FuncData} (F_determinant : FnP K "determinant" s_determinant f_determinant fd_determinant) (b_determinant : Binds K fd_determinant ["ground", "table"] []) (g_determinant : mg "determinant" = some (.ref f_determinant)) (G_determinant : FnOk P w K mg base CX0 3 f_determinant fd_determinant ["ground", "table"] (sp_determinant K)) {t_MOST_LETTERS : Tok} (mg_MOST_LETTERS : mg "MOST_LETTERS" = some (.int 5 t_MOST_LETTERS)) {t_MOST_LETTERS_ON_A_WHEEL : Tok} (mg_MOST_LETTERS_ON_A_WHEEL : mg "MOST_LETTERS_ON_A_WHEEL" = some (.int 4 t_MOST_LETTERS_ON_A_WHEEL)) (m_len : mg "len" = none) (m_isinstance : mg "isinstance" = none) (m_tuple : mg "tuple" = none) :
    FnOk P w K mg base CX0 5 f fd ["ground", "thing"] (sp_is_form_table K) := by
  refine F.ok sc_is_form_table (fun vs H Q E h => ?_) (fun cdv A outer s H vs Q E hr h => ?_)
  · obtain ⟨g, v, t, m, D, M, a, F', R, W, rfl, hg, hv, hf, hm1, hm, hmw, hD0, hD, hM, ha4, ha, q⟩ := h
    rfl
  · obtain ⟨g, v, t, m, D, M, a, F', R, W, rfl, hg, hv, hf, hm1, hm, hmw, hD0, hD, hM, ha4, ha, q⟩ := h
    refine ⟨_, PSs.nox (pss_cons (ps_if (pt_not (pt_val (pe_callB call_isi (by rfl) m_isinstance (by decide +kernel) (pa_cons (pv 1) (pa_cons (pe_bltn (v := .ty "tuple") (by rfl) m_tuple (by decide +kernel) rfl) pa_nil))))) (pss_one (ps_ret pe_bl)) pss_nil)
        (pss_cons (ps_set (i := 2) sc_is_form_table.nd rfl (.inl rfl) (pe_callB call_len_seq (by rfl) m_len (by decide +kernel) (pa_cons (pv 1) pa_nil)))
        (pss_cons (ps_set (i := 3) sc_is_form_table.nd rfl (.inl rfl) (pe_ifExp (pt_cmpR op_eq (pv 0) pe_int (nomark _)) (pe_glob (v := .int 5) (by rfl) mg_MOST_LETTERS ⟨_, rfl⟩) (pe_glob (v := .int 4) (by rfl) mg_MOST_LETTERS_ON_A_WHEEL ⟨_, rfl⟩)))
        (pss_cons (ps_if (PW.pt (pw_or (pt_not (pt_chain op_le op_le pe_int (pv 2) (pv 3))) (pw_or1 (pt_not (pt_val (pe_call G_is_table hr (by rfl) g_is_table F_is_table.kp b_is_table .nil pass0 (pa_cons (pv 0) (pa_cons (pv 1) (pa_cons (pv 2) (pa_cons (pv 2) pa_nil)))))))))) (pss_one (ps_ret pe_bl)) pss_nil)
        (pss_one (ps_ret (pe_and (pe_cmpR (op_eqD hr.units) (pe_call G_turned (hr.mono (by decide)) (by rfl) g_turned F_turned.kp b_turned .nil pass0 (pa_cons (pv 1) pa_nil)) (pv 1) (nomark _)) (pe_one (pe_cmpR op_ne (pe_ix ix_tup (pe_call G_determinant (hr.mono (by decide)) (by rfl) g_determinant F_determinant.kp b_determinant .nil pass0 (pa_cons (pv 0) (pa_cons (pv 1) pa_nil))) pe_int (fun _ _ => rfl)) pe_int (nomark _)))))))))), ?_⟩
    have htl := hf.len
    obtain ⟨p, xs, rfl, hp, hlx, hxs⟩ := id hv
    have hrow : ∀ r ∈ t, r.length = m ∧ ∀ c ∈ r, TN g (a + 1) c := fun r hr' => ⟨(hf.row r hr').1, (hf.row r hr').tn hg (by omega) hD0 (pw_lt hD (by omega)) (pw_lt hM (by omega))⟩
    walk_at "go"
    refine w_isT hp ?_
    walk_at "go"
    refine iteF ?_
    walk_at "go"
    refine ⟨p, xs, rfl, .inr (SqT.of hp), ?_⟩
    walk_at "go"
    refine w_ite (fun hc => ?_) (fun hc => ?_)
    all_goals
      walk_at "go"
      refine w_ite (fun h1 => ?_) (fun h1 => absurd (show (1 : Int) ≤ (xs.length : Int) by omega) h1)
      walk_at "go"
      refine w_iteN (fun h2 => absurd ?_ h2) (fun h2 => ?_)
      · omega
      walk_at "go"
      refine ⟨g, .ref p, (xs.length : Int), (xs.length : Int), a + 1, 0, rfl, tabV_tb hv (by omega) (fun r hr' => ⟨by rw [(hrow r hr').1]; omega, (hrow r hr').2⟩), fun H1 s1 => ?_⟩
      rw [tab_true hv (by omega) (fun r hr' => ⟨by rw [(hrow r hr').1]; omega, fun c hc => ((hrow r hr').2 c hc).num⟩)]
      walk_at "go"
      refine iteF ?_
      walk_at "go"
      have hv1 := TabV.kt hv (Kt.of s1)
      refine ⟨.ref p, t, m, rfl, hv1, by omega, by omega, fun r hr' => (hrow r hr').1, by omega, fun v2 H2 s2 h2 => ?_⟩
      walk_at "go"
      refine w_eqTab h2 (TabV.kt hv1 (Kt.of s2)) (hf.turn hg) ?_
      walk_at "go"
      refine ⟨g, .ref p, t, m, 4200, a + 1, 2 ^ a, F', R, W, rfl, hg, TabV.kt hv1 (Kt.of s2), htl, hrow, hm1, by omega, by omega, Nat.le_trans (Nat.mul_le_mul (show a + 1 ≤ 801 by omega) hm) (by decide), by omega, fun r hr' => wr_tz hg (hf.row r hr').2 hD0 hD hM (Nat.le_trans (show 13 ≤ 2 ^ 4 by decide) (Nat.pow_le_pow_right (by decide) ha4)), Nat.pow_pos (by decide), ift_sz hm ha, by decide, by decide, fun v3 H3 d s3 h3 td ed => ?_⟩
      obtain ⟨p3, rfl, hp3⟩ := h3
      walk_at "go"
      have hd0 : d.1 ≠ 0 := fun z => hf.det (by rw [← ed]; exact (e_zero hg td).mpr z)
      rw [decide_eq_false hd0]
      exact q _ (s1.trans (s2.trans s3))
theorem ok_want_list_of_rows {f : Addr} {fd : FuncData} (F : FnP K "want_list_of_rows" s_want_list_of_rows f fd)
    {f_want_rows : Addr} {fd_want_rows : FuncData} (F_want_rows : FnP K "want_rows" s_want_rows f_want_rows fd_want_rows) (b_want_rows : Binds K fd_want_rows ["form", "things"] []) (g_want_rows : mg "want_rows" = some (.ref f_want_rows)) (G_want_rows : FnOk P w K mg base CX0 4 f_want_rows fd_want_rows ["form", "things"] (sp_want_rows K)) (m_isinstance : mg "isinstance" = none) (m_list : mg "list" = none) :
    FnOk P w K mg base CX0 5 f fd ["form", "thing"] (sp_want_list_of_rows K) := by
  refine F.ok sc_want_list_of_rows (fun vs H Q E h => ?_) (fun cdv A outer s H vs Q E hr h => ?_)
  · obtain ⟨f, tv, g, L, xs, t, rs, m, k, rfl, hf, ht, htl, hm, hL, hacc, hrs, q⟩ := h
    rfl
  · obtain ⟨f, tv, g, L, xs, t, rs, m, k, rfl, hf, ht, htl, hm, hL, hacc, hrs, q⟩ := h
    refine ⟨_, PSs.nox (pss_cons (ps_if (pt_not (pt_val (pe_callB call_isi (by rfl) m_isinstance (by decide +kernel) (pa_cons (pv 1) (pa_cons (pe_bltn (v := .ty "list") (by rfl) m_list (by decide +kernel) rfl) pa_nil))))) (pss_one ps_never) pss_nil)
        (pss_one (ps_expr (pe_call G_want_rows hr (by rfl) g_want_rows F_want_rows.kp b_want_rows .nil pass0 (pa_cons (pv 0) (pa_cons (pv 1) pa_nil)))))), ?_⟩
    walk_at "go"
    refine w_isL hL ?_
    walk_at "go"
    refine iteF ?_
    walk_at "go"
    refine ⟨f, tv, g, L, xs, t, rs, m, k, rfl, hf, ht, htl, hm, hL, hacc, hrs, fun H1 s1 => ?_⟩
    walk_at "go"
    exact q _ s1
theorem ok_products {f : Addr} {fd : FuncData} (F : FnP K "products" s_products f fd)
    {f_product : Addr} {fd_product : FuncData} (F_product : FnP K "product" s_product f_product fd_product) (b_product : Binds K fd_product ["ground", "one", "other"] []) (g_product : mg "product" = some (.ref f_product)) (G_product : FnOk P w K mg base CX0 4 f_product fd_product ["ground", "one", "other"] (sp_product K))
    {f_turned : Addr} {fd_turned : FuncData} (F_turned : FnP K "turned" s_turned f_turned fd_turned) (b_turned : Binds K fd_turned ["table"] []) (g_turned : mg "turned" = some (.ref f_turned)) (G_turned : FnOk P w K mg base CX0 1 f_turned fd_turned ["table"] (sp_turned K)) (CF : FormC K) (CK : KeeperC K) :
    FnOk P w K mg base CX0 5 f fd ["form", "rows", "others"] (sp_products K) := by
  refine F.ok sc_products (fun vs H Q E h => ?_) (fun cdv A outer s H vs Q E hr h => ?_)
  · obtain ⟨g, f, tv, x, y, t, rs, ss, m, Dt, Dr, Ds, Mt, Mr, Ms, k, F', R, W, rfl, hg, hf, ht, hx, hy, htl, hm1, hm, hrl, hsl1, hsl, htz, hrz, hsz, hDt, hDr, hDs, bDt, bDr, bDs, bDD, bMt, bMr, bMs, bMM, hk4, hk, q⟩ := h
    rfl
  · obtain ⟨g, f, tv, x, y, t, rs, ss, m, Dt, Dr, Ds, Mt, Mr, Ms, k, F', R, W, rfl, hg, hf, ht, hx, hy, htl, hm1, hm, hrl, hsl1, hsl, htz, hrz, hsz, hDt, hDr, hDs, bDt, bDr, bDs, bDD, bMt, bMr, bMs, bMM, hk4, hk, q⟩ := h
    refine ⟨_, PSs.nox (pss_one (ps_ret (pe_call G_product hr (by rfl) g_product F_product.kp b_product .nil pass0 (pa_cons (pe_fld (pv 0) rfl) (pa_cons (pe_call G_product hr (by rfl) g_product F_product.kp b_product .nil pass0 (pa_cons (pe_fld (pv 0) rfl) (pa_cons (pv 1) (pa_cons (pe_fld (pv 0) rfl) pa_nil)))) (pa_cons (pe_call G_turned (hr.mono (by decide)) (by rfl) g_turned F_turned.kp b_turned .nil pass0 (pa_cons (pv 2) pa_nil)) pa_nil)))))), ?_⟩
    have hg3 : g = 0 ∨ (3 ≤ g ∧ g ≤ 13) := by unfold Gr5 at hg; omega
    have hkm : k * m ≤ 4000 := Nat.le_trans (Nat.mul_le_mul hk hm) (by decide)
    have ok : ∀ {D : Int} {M n : Nat} {r : List (Int × Int)}, RZ g D M n r → D ≠ 0 → D.natAbs < 2 ^ k → M < 2 ^ k → r.length = n ∧ ∀ c ∈ r, OkN g k c := fun h h0 h1 h2 => ⟨h.1, fun c hc => ((h.2 c hc).tn hg hk4 h0 h1 h2).okn hg⟩
    walk_at "go"
    refine w_gnd CF hf ?_
    walk_at "go"
    refine w_gnd CF hf ?_
    walk_at "go"
    refine w_tab CF hf ?_
    walk_at "go"
    refine ⟨g, x, tv, rs, t, m, m, k, rfl, hg3, hx, ht, fun r hr' => ok (hrz r hr') hDr bDr bMr, htl, fun r hr' => ok (htz r hr') hDt bDt bMt, by omega, by omega, by omega, by omega, by omega, hkm, hk, fun v1 H1 s1 h1 => ?_⟩
    walk_at "go"
    refine ⟨y, ss, m, rfl, TabV.kt hy (Kt.of s1), by omega, by omega, fun r hr' => (hsz r hr').1, by omega, fun v2 H2 s2 h2 => ?_⟩
    obtain ⟨pz, pe⟩ := prod_tz2 (V := W) hg htl hrz htz
    have hss := rz_turn2 rfl hsz
    walk_at "go"
    refine ⟨g, v1, v2, _, turnF m ss, m, ss.length, k, rfl, hg3, TabV.kt h1 (Kt.of s2), h2, fun r hr' => ok (pz r hr') (Int.mul_ne_zero hDr hDt) bDD bMM, turn_len, fun r hr' => ok (hss r hr') hDs bDs bMs, by omega, by omega, by omega, by rw [List.length_map]; omega, by omega, hkm, hk, fun v3 H3 s3 h3 => ?_⟩
    obtain ⟨a1, a2, a3⟩ := prods_tz (V := W) hg htl hrz htz hsz rfl
    exact q _ _ _ (s1.trans (s2.trans s3)) h3 a1 a2 a3
theorem ok_Keeper___init__ {f : Addr} {fd : FuncData} (F : FunD K "__init__" "Keeper.__init__" (defArgs s_Keeper___init__) (defBody s_Keeper___init__) (defScope s_Keeper___init__) [] [] f fd)
    {f_first_changed : Addr} {fd_first_changed : FuncData} (F_first_changed : FnP K "first_changed" s_first_changed f_first_changed fd_first_changed) (b_first_changed : Binds K fd_first_changed ["form", "table"] []) (g_first_changed : mg "first_changed" = some (.ref f_first_changed)) (G_first_changed : FnOk P w K mg base CX0 4 f_first_changed fd_first_changed ["form", "table"] (sp_first_changed K))
    {f_is_table : Addr} {fd_is_table : FuncData} (F_is_table : FnP K "is_table" s_is_table f_is_table fd_is_table) (b_is_table : Binds K fd_is_table ["ground", "thing", "high", "wide"] []) (g_is_table : mg "is_table" = some (.ref f_is_table)) (G_is_table : FnOk P w K mg base CX0 4 f_is_table fd_is_table ["ground", "thing", "high", "wide"] (sp_is_table K)) (gi_Form : mg "Form" = some (.ref (He.ga K "Form"))) (IC_Form : C8.InsC K (He.ga K "Form")) (CF : FormC K) (CK : KeeperC K) (m_isinstance : mg "isinstance" = none) (m_len : mg "len" = none) :
    FnOk P w K mg base CX0 5 f fd ["self", "form", "table"] (sp_Keeper___init__ K) := by
  refine F.ok sc_Keeper___init__ (fun vs H Q E h => ?_) (fun cdv A outer s H vs Q E hr h => ?_)
  · obtain ⟨x, dx, fv, tv, kv, g, t, T, m, F', R, W, rfl, hx, hg, hf, ht, hk, hok, q⟩ := h
    rfl
  · obtain ⟨x, dx, fv, tv, kv, g, t, T, m, F', R, W, rfl, hx, hg, hf, ht, hk, hok, q⟩ := h
    refine ⟨_, PSs.nox (pss_cons (ps_if (pt_not (pt_val (pe_callB (C8.call_isC IC_Form) (by rfl) m_isinstance (by decide +kernel) (pa_cons (pv 1) (pa_cons (pe_glob (v := .ref (He.ga K "Form")) (by rfl) gi_Form rfl) pa_nil))))) (pss_one ps_never) pss_nil)
        (pss_cons (ps_if (pt_not (pt_val (pe_call G_is_table hr (by rfl) g_is_table F_is_table.kp b_is_table .nil pass0 (pa_cons (pe_fld (pv 1) rfl) (pa_cons (pv 2) (pa_cons (pe_callB call_len_seq (by rfl) m_len (by decide +kernel) (pa_cons (pe_fld (pv 1) rfl) pa_nil)) (pa_cons (pe_callB call_len_seq (by rfl) m_len (by decide +kernel) (pa_cons (pe_fld (pv 1) rfl) pa_nil)) pa_nil))))))) (pss_one ps_never) pss_nil)
        (pss_cons (ps_set (i := 3) sc_Keeper___init__.nd rfl (.inl rfl) (pe_call G_first_changed hr (by rfl) g_first_changed F_first_changed.kp b_first_changed .nil pass0 (pa_cons (pv 1) (pa_cons (pv 2) pa_nil))))
        (pss_cons (ps_if (pt_cmpR op_notN (pv 3) pe_non (nomark _)) (pss_one ps_never) pss_nil)
        (pss_cons (ps_fld (pv 0) (pv 1) rfl)
        (pss_one (ps_fld (pv 0) (pv 2) rfl))))))), ?_⟩
    obtain ⟨Dt, D, Mt, M, s1, A, htl, hm1, hm, hsy, htz, hTl, hTz, hDt, hD, bDt, bMt, bD, bM, hs4, hs, hA4, hA, hkp⟩ := id hok
    obtain ⟨p, ps, etv, hp, hlp, _⟩ := id ht
    obtain ⟨pf, dxf, efv, hpf⟩ := id hf
    subst efv
    walk_at "go"
    refine ⟨pf, dxf, _, rfl, hpf, ?_⟩
    walk_at "go"
    refine iteF ?_
    walk_at "go"
    refine w_gnd CF hf ?_
    walk_at "go"
    refine w_tab CF hf ?_
    rw [etv]
    walk_at "go"
    refine ⟨p, ps, rfl, .inr (SqT.of hp), ?_⟩
    walk_at "go"
    refine w_tab CF hf ?_
    rw [etv]
    walk_at "go"
    refine ⟨p, ps, rfl, .inr (SqT.of hp), ?_⟩
    have Ttn : ∀ r ∈ T, r.length = m ∧ ∀ a ∈ r, TN g (A + 1) a := fun r hr' => ⟨(hTz r hr').1, (hTz r hr').tn hg (by omega) hD (pw_lt bD (by omega)) (pw_lt bM (by omega))⟩
    walk_at "go"
    refine ⟨g, kv, (ps.length : Int), (ps.length : Int), A + 1, 0, rfl, tabV_tb hk (by omega) (fun r hr' => ⟨by rw [(Ttn r hr').1]; omega, (Ttn r hr').2⟩), fun H1 t1 => ?_⟩
    rw [tab_true hk (by omega) (fun r hr' => ⟨by rw [(Ttn r hr').1]; omega, fun c hc => ((Ttn r hr').2 c hc).num⟩)]
    walk_at "go"
    refine iteF ?_
    walk_at "go"
    refine ⟨g, .ref pf, tv, kv, t, T, m, Dt, D, Mt, M, s1, A, F', R, W, rfl, hg, hf.sm t1, TabV.kt ht (Kt.of t1), TabV.kt hk (Kt.of t1), htl, hm1, hm, hsy, htz, hTl, hTz, hDt, hD, bDt, bMt, bD, bM, hs4, hs, hA4, hA, hkp, fun H2 t2 => ?_⟩
    walk_at "go"
    refine ⟨rfl, ?_⟩
    rw [decide_eq_true (rfl : V.non = V.non), Bool.not_true]
    walk_at "go"
    have t12 := t1.trans t2
    refine ⟨x, _, dx, [], rfl, t12 _ _ hx, CK.c, CK.nf, by decide, ?_⟩
    walk_at "go"
    refine ⟨x, _, dx, _, rfl, upd_same, CK.c, CK.nt, (show 1 < 1000 by decide), ?_⟩
    exact q _ (fun b o n h => by rw [upd_ne n, upd_ne n]; exact t12 _ _ h) (by rw [upd_same]; rfl)
theorem ok_mirrors_table {f : Addr} {fd : FuncData} (F : FnP K "mirrors_table" s_mirrors_table f fd)
    {f_whole_mirrors : Addr} {fd_whole_mirrors : FuncData} (F_whole_mirrors : FnP K "whole_mirrors" s_whole_mirrors f_whole_mirrors fd_whole_mirrors) (b_whole_mirrors : Binds K fd_whole_mirrors ["form", "rows"] []) (g_whole_mirrors : mg "whole_mirrors" = some (.ref f_whole_mirrors)) (G_whole_mirrors : FnOk P w K mg base CX0 4 f_whole_mirrors fd_whole_mirrors ["form", "rows"] (sp_whole_mirrors K))
    {f_lowest : Addr} {fd_lowest : FuncData} (F_lowest : FnP K "lowest" s_lowest f_lowest fd_lowest) (b_lowest : Binds K fd_lowest ["ground", "top", "bottom"] []) (g_lowest : mg "lowest" = some (.ref f_lowest)) (G_lowest : FnOk P w K mg base CX0 2 f_lowest fd_lowest ["ground", "top", "bottom"] (sp_lowest K)) (CF : FormC K) (CK : KeeperC K) (m_tuple : mg "tuple" = none) :
    FnOk P w K mg base CX0 5 f fd ["form", "rows"] (sp_mirrors_table K) := by
  refine F.ok sc_mirrors_table (fun vs H Q E h => ?_) (fun cdv A outer s H vs Q E hr h => ?_)
  · obtain ⟨g, f, tv, L, xs, t, rs, m, Dt, Mt, s, a, k, F', R, W, rfl, hg, hf, ht, htl, hm1, hm, hsy, htz, hDt, bDt, bMt, hs4, hs, hL, hacc, hrs, hk4, hk, hN, hN1, q⟩ := h
    rfl
  · obtain ⟨g, f, tv, L, xs, t, rs, m, Dt, Mt, s, a, k, F', R, W, rfl, hg, hf, ht, htl, hm1, hm, hsy, htz, hDt, bDt, bMt, hs4, hs, hL, hacc, hrs, hk4, hk, hN, hN1, q⟩ := h
    refine ⟨_, PSs.nox (pss_cons (ps_asg (pe_call G_whole_mirrors hr (by rfl) g_whole_mirrors F_whole_mirrors.kp b_whole_mirrors .nil pass0 (pa_cons (pv 0) (pa_cons (pv 1) pa_nil))) (pg_tup rfl (pgs_cons (pg_name (i := 2) sc_mirrors_table.nd rfl (.inl rfl)) (pgs_cons (pg_name (i := 3) sc_mirrors_table.nd rfl (.inr rfl)) pgs_nil))))
        (pss_one (ps_ret (pe_callTy call_tuple_of (by rfl) m_tuple (by decide +kernel) (pa_cons (pe_lc (own := [("line", 4)]) (g := gName 4) (tt := tYes) (by rfl) sc_mirrors_table.nd (pi_list (pv 2)) (blkOk_by (own := [("line", 4)]) (N := ["form", "rows", "tops", "bottom", "line", "x"]) (sc := defScope s_mirrors_table) (by decide +kernel)) (fun _ _ _ _ _ => (pg_name (i := 4) sc_mirrors_table.nd rfl (.inl rfl))) (fun _ _ _ _ _ => pts_nil) (fun _ _ _ _ _ => (pe_callTy (r := rTupOf K) call_tupOf (by rfl) m_tuple (by decide +kernel) (pa_cons (pe_lc (own := [("x", 5)]) (g := gName 5) (tt := tYes) (wi := iList K (tVar 4)) (by rfl) sc_mirrors_table.nd (pi_list (pv 4)) (blkOk_by (own := [("x", 5)]) (N := ["form", "rows", "tops", "bottom", "line", "x"]) (sc := ({ kind := PySem.ScopeKind.function, names := [ (PySem.Str.ofString ".0", PySem.NameKind.local), (PySem.Str.ofString "line", PySem.NameKind.local), (PySem.Str.ofString "tuple", PySem.NameKind.globalImplicit), (PySem.Str.ofString "bottom", PySem.NameKind.cell), (PySem.Str.ofString "form", PySem.NameKind.cell)], isGenerator := false, isCoroutine := false, more := [] } : Scope)) (by decide +kernel)) (fun _ _ _ _ _ => (pg_name (i := 5) sc_mirrors_table.nd rfl (.inl rfl))) (fun _ _ _ _ _ => pts_nil) (fun _ _ _ _ _ => (pe_call G_lowest (hr.mono (by decide)) (by rfl) g_lowest F_lowest.kp b_lowest .nil pass0 (pa_cons (pe_fldK (K := K) rfl (pv 0) rfl) (pa_cons (pv 5) (pa_cons (pv 3) pa_nil)))))) pa_nil)))) pa_nil))))), ?_⟩
    walk_at "go"
    refine ⟨g, f, tv, L, xs, t, rs, m, Dt, Mt, s, a, k, F', R, W, rfl, hg, hf, ht, htl, hm1, hm, hsy, htz, hDt, bDt, bMt, hs4, hs, hL, hacc, hrs, hk4, hk, hN, hN1, fun p1 L1 bot tops H1 s1 h1 hT hw => ?_⟩
    generalize 4 + rs.length * (8 + 2 * a + s) = P at hN hw q
    obtain ⟨Lt', ts, eLt, hLt, hacc1⟩ := hT
    cases eLt
    have htsl : ts.length = m := by rw [hacc1.1, hw.len]
    obtain ⟨htab, hrz⟩ := wms_done hg hw
    have hb0 := (ibn_ne hg W hw.bn).1
    walk_at "go"
    refine ⟨L1, rfl, ⟨ts, SqL.of hLt⟩, fun D hD => ?_⟩
    refine lc_list (xs := ts) (fun i H' => Same H1 H' ∧ ∃ ys, H' D = some (.lst ys) ∧ Acc RowV H' ys (tops.map fun l => l.map fun x => lowF g x bot) i) ⟨Same.updD (Same.refl H1) hD, [], upd_same, Acc.nil⟩ (fun i H' _ hP => SqL.of (hP.1 _ _ hLt)) (fun i x H' hxi hP => ?_) (fun H' hP => ?_)
    · obtain ⟨sm, ys, hD', hacc2⟩ := hP
      have hi : i < tops.length := by
        have := (List.getElem?_eq_some_iff.mp hxi).1
        have := hacc1.1
        omega
      have gi : tops[i]? = some tops[i] := List.getElem?_eq_getElem hi
      obtain ⟨r1, r2⟩ := hw.row _ (List.getElem_mem hi)
      obtain ⟨px, rfl, hpx⟩ := (hacc1.2 i x _ hxi gi).sm sm
      walk_at "go"
      refine ⟨rfl, ?_⟩
      walk_at "go"
      refine ⟨px, rfl, ⟨_, SqL.of hpx⟩, fun D2 hD2 => ?_⟩
      refine lc_list (xs := tops[i].map V.int) (fun j H'' => Same H' H'' ∧ ∃ zs, H'' D2 = some (.lst zs) ∧ Acc NumV H'' zs (tops[i].map fun x => lowF g x bot) j) ⟨Same.updD (Same.refl H') hD2, [], upd_same, Acc.nil⟩ (fun j H'' _ hP => SqL.of (hP.1 _ _ hpx)) (fun j y H'' hyj hP => ?_) (fun H'' hP => ?_)
      · obtain ⟨sm2, zs, hD2', hz⟩ := hP
        have hj : j < tops[i].length := by
          have := (List.getElem?_eq_some_iff.mp hyj).1
          rw [List.length_map] at this
          exact this
        have gj : tops[i][j]? = some tops[i][j] := List.getElem?_eq_getElem hj
        rw [List.getElem?_map, gj] at hyj
        cases Option.some.inj hyj
        have s02 := s1.trans (sm.trans sm2)
        walk_at "go"
        refine ⟨rfl, ?_⟩
        walk_at "go"
        refine w_gnd CF (hf.sm s02) ?_
        walk_at "go"
        refine ⟨g, tops[i][j], bot, rfl, low_ask hg W hw.bn (pw_lt hw.bb (by omega)) (pw_lt (r2 _ (List.getElem_mem hj)) (by omega)), fun p3 H3 hp3 s3 h3 => ?_⟩
        have h3D := s3 _ _ hD2'
        have kt : Kt H'' (upd H3 D2 (.lst (zs ++ [V.ref p3]))) := (Kt.of s3).trans (Kt.updL h3D)
        refine ⟨zs, h3D, small1000 (by rw [hz.1]; omega), Same.updD (sm2.trans s3) hD2, _, upd_same, ?_⟩
        exact (hz.mono fun x a h => NumV.kt h kt).snoc (by rw [List.getElem?_map, gj]; rfl) ⟨p3, rfl, Kt.updL h3D _ _ h3⟩
      · obtain ⟨sm2, zs, hD2', hz⟩ := hP
        walk_at "go"
        refine ⟨_, _, rfl, .inl ⟨SqL.of hD2', fun l hl => ?_⟩⟩
        have s4' := same_upd (o := HO.tup zs) hl
        have h4D := s4' _ _ (sm2 _ _ hD')
        have kt : Kt H' (upd (upd H'' l (.tup zs)) D (.lst (ys ++ [V.ref l]))) := (Kt.of (sm2.trans s4')).trans (Kt.updL h4D)
        refine ⟨ys, h4D, small1000 (by rw [hacc2.1]; have := hw.len; omega), Same.updD (sm.trans (sm2.trans s4')) hD, _, upd_same, ?_⟩
        refine (hacc2.mono fun x a h => RowV.kt h kt).snoc (by rw [List.getElem?_map, gi]; rfl) ?_
        exact RowV.kt ((hz.mono fun x a h => NumV.kt h (Kt.of s4')).sq (p := l) (by rw [List.length_map, List.length_map]) upd_same) (Kt.updL h4D)
    · obtain ⟨sm, ys, hD', hacc2⟩ := hP
      walk_at "go"
      refine ⟨_, _, rfl, .inl ⟨SqL.of hD', fun l hl => ?_⟩⟩
      have s7 := same_upd (o := HO.tup ys) hl
      exact q _ _ bot _ (s1.trans (sm.trans s7)) ((hacc2.mono fun x a h => RowV.kt h (Kt.of s7)).sq (by rw [List.length_map]; exact hacc1.1) upd_same) htab hb0 hw.bb hrz
theorem ok__law_through {f : Addr} {fd : FuncData} (F : FnP K "_law_through" s__law_through f fd)
    {f__law_added : Addr} {fd__law_added : FuncData} (F__law_added : FnP K "_law_added" s__law_added f__law_added fd__law_added) (b__law_added : Binds K fd__law_added ["_law_g", "_law_row_here", "_law_other"] []) (g__law_added : mg "_law_added" = some (.ref f__law_added)) (G__law_added : FnOk P w K mg base CX0 4 f__law_added fd__law_added ["_law_g", "_law_row_here", "_law_other"] (sp__law_added K))
    {f__law_scaled : Addr} {fd__law_scaled : FuncData} (F__law_scaled : FnP K "_law_scaled" s__law_scaled f__law_scaled fd__law_scaled) (b__law_scaled : Binds K fd__law_scaled ["_law_g", "_law_row_here", "_law_x"] []) (g__law_scaled : mg "_law_scaled" = some (.ref f__law_scaled)) (G__law_scaled : FnOk P w K mg base CX0 4 f__law_scaled fd__law_scaled ["_law_g", "_law_row_here", "_law_x"] (sp__law_scaled K)) (m_tuple : mg "tuple" = none) (m_zip : mg "zip" = none) (m_len : mg "len" = none) :
    FnOk P w K mg base CX0 5 f fd ["_law_g", "_law_row_here", "_law_table"] (sp__law_through K) := by
  refine F.ok sc__law_through (fun vs H Q E h => ?_) (fun cdv A outer s H vs Q E hr h => ?_)
  · obtain ⟨g, x, y, r, t, n, m, Dr, Dt, Mr, Mt, k, F', R, W, rfl, hg, hx, hy, htr, htl, hm1, hm, hn, ht, hDr, hDt, hD, hMr, hMt, hM, hk4, hk, q⟩ := h
    rfl
  · obtain ⟨g, x, y, r, t, n, m, Dr, Dt, Mr, Mt, k, F', R, W, rfl, hg, hx, hy, htr, htl, hm1, hm, hn, ht, hDr, hDt, hD, hMr, hMt, hM, hk4, hk, q⟩ := h
    refine ⟨_, PSs.nox (pss_cons (ps_set (i := 3) sc__law_through.nd rfl (.inl rfl) (pe_callTy call_tuple_of (by rfl) m_tuple (by decide +kernel) (pa_cons (pe_op op_rep (pe_lst (pa_cons (pe_tup (pa_cons pe_int (pa_cons pe_int pa_nil))) pa_nil)) (pe_callB call_len_seq (by rfl) m_len (by decide +kernel) (pa_cons (pe_ix ix_tup (pv 2) pe_int (fun _ _ => rfl)) pa_nil))) pa_nil)))
        (pss_cons (ps_for PassesOwn.never rfl (RZ.pi_zipA (by rfl) m_zip (pa_cons (pv 1) (pa_cons (pv 2) pa_nil))) (pg_tup rfl (pgs_cons (pg_name (i := 4) sc__law_through.nd rfl (.inl rfl)) (pgs_cons (pg_name (i := 5) sc__law_through.nd rfl (.inl rfl)) pgs_nil))) (pss_one (ps_set (i := 3) sc__law_through.nd rfl (.inl rfl) (pe_call G__law_added hr (by rfl) g__law_added F__law_added.kp b__law_added .nil pass0 (pa_cons (pv 0) (pa_cons (pv 3) (pa_cons (pe_call G__law_scaled hr (by rfl) g__law_scaled F__law_scaled.kp b__law_scaled .nil pass0 (pa_cons (pv 0) (pa_cons (pv 5) (pa_cons (pv 4) pa_nil)))) pa_nil)))))))
        (pss_one (ps_ret (pv 3))))), ?_⟩
    have ⟨hg0, hg13⟩ := grb hg
    have hDD : Dt * Dr ≠ 0 := Int.mul_ne_zero hDt hDr
    have hDrk : Dr.natAbs < 2 ^ k := by
      rw [Int.natAbs_mul] at hD
      exact Nat.lt_of_le_of_lt (Nat.le_mul_of_pos_left _ (by omega)) hD
    have hDtk : Dt.natAbs < 2 ^ k := by
      rw [Int.natAbs_mul] at hD
      exact Nat.lt_of_le_of_lt (Nat.le_mul_of_pos_right _ (by omega)) hD
    obtain ⟨px, xs, rfl, hpx, hlx, hxs⟩ := hx
    obtain ⟨py, ys, rfl, hpy, hly, hys⟩ := hy
    have hrl := htr.1
    have gt0 : t[0]? = some (t[0]'(by omega)) := List.getElem?_eq_getElem _
    have gy0 : ys[0]? = some (ys[0]'(by omega)) := List.getElem?_eq_getElem _
    obtain ⟨p0, xs0, e0, hp0, hl0, _⟩ := hys 0 _ _ gy0 gt0
    have hr0 := (ht _ (List.mem_of_getElem? gt0)).1
    rw [e0] at gy0
    walk_at "go"
    refine w_new (by simp) fun u H1 hu s1 h1 => ?_
    walk_at "go"
    refine w_new (by simp) fun l1 H2 hl1 s2 h2 => ?_
    walk_at "go"
    refine w_ixT (s2 _ _ (s1 _ _ hpy)) (atI_nat (j := 0) gy0) ?_
    walk_at "go"
    refine ⟨p0, xs0, rfl, .inr (SqT.of (s2 _ _ (s1 _ _ hp0))), ?_⟩
    rw [show xs0.length = n by omega]
    walk_at "go"
    refine w_rep h2 (by omega) (by omega) (by simp) ?_
    refine w_newO fun l3 H3 hl3 s3 h3 => ?_
    walk_at "go"
    refine ⟨_, _, rfl, .inl ⟨SqL.of h3, fun l4 hl4' => ?_⟩⟩
    rw [Int.toNat_natCast]
    have s4 := same_upd (o := HO.tup (List.replicate n [V.ref u]).flatten) hl4'
    have h4 : (upd H3 l4 (.tup (List.replicate n [V.ref u]).flatten)) l4 = some (.tup (List.replicate n [V.ref u]).flatten) := upd_same
    generalize upd H3 l4 (.tup (List.replicate n [V.ref u]).flatten) = H4 at s4 h4 ⊢
    have s04 := s1.trans (s2.trans (s3.trans s4))
    have hz4 := row_zeros (s4 _ _ (s3 _ _ (s2 _ _ h1))) h4
    walk_at "go"
    refine ⟨px, py, xs, ys, rfl, .inr ⟨SqT.of (s04 _ _ hpx), SqT.of (s04 _ _ hpy), ?_⟩⟩
    refine for_it (walk_zipT (xs := xs) (ys := ys) (n := m) (by omega)) (fun i σ H' => ∃ (fv : V) (w : List (Int × Int)), (∃ y4 y5, σ = [some (.int g), some (.ref px), some (.ref py), some fv, y4, y5]) ∧ Same H H' ∧ RowV H' fv w ∧ RZ g (Dt * Dr) (i * (Mt * Mr)) n w ∧ er W w = fun j => SF (fun l => er W r l * ((t.map (er W)).getD l zr) j) i) ⟨_, _, ⟨_, _, rfl⟩, s04, hz4, rz_zero hg, er_zeros n⟩ (fun i σ H' _ hP => ?_) (fun i v σ Ha Hb hi hP hY => ?_) (fun σ H' hP => ?_)
    · obtain ⟨fv, w, _, sm, _⟩ := hP
      exact ⟨SqT.of (sm _ _ hpx), SqT.of (sm _ _ hpy)⟩
    · obtain ⟨fv, w, ⟨y4, y5, rfl⟩, sm, hw, hwz, her⟩ := hP
      obtain ⟨T, u1, v', rfl, hT, rfl, hu1, hv1⟩ := hY
      have sT : Same Ha (upd Ha T (.tup [u1, v'])) := same_upd hT
      have hTT : (upd Ha T (.tup [u1, v'])) T = some (.tup [u1, v']) := upd_same
      generalize upd Ha T (.tup [u1, v']) = H5 at sT hTT ⊢
      have s05 := sm.trans sT
      have gr : r[i]? = some (r[i]'(by omega)) := List.getElem?_eq_getElem _
      have gt1 : t[i]? = some (t[i]'(by omega)) := List.getElem?_eq_getElem _
      have tr := htr.2 _ (List.getElem_mem (show i < r.length by omega))
      have tt := ht _ (List.mem_of_getElem? gt1)
      have him : i * (Mt * Mr) ≤ (m + 1) * (Mt * Mr) := Nat.mul_le_mul_right _ (by omega)
      have h1m : 1 * (Mt * Mr) ≤ (m + 1) * (Mt * Mr) := Nat.mul_le_mul_right _ (by omega)
      have hsc := rz_times hg tt tr
      walk_at "go"
      refine ⟨g, v', u1, _, _, rfl, hg0, hg13, RowV.kt (hys i v' _ hv1 gt1) (Kt.of s05), (hxs i u1 _ hu1 gr).kt (Kt.of s05), by rw [tt.1]; omega, tt.be hg hk4 hk hDt hDtk hMt, (tr.tn hg hk4 hDr hDrk hMr).be hk, fun v6 H6 s6 h6 => ?_⟩
      refine ⟨g, fv, v6, w, _, rfl, hg0, hg13, RowV.kt hw (Kt.of (sT.trans s6)), h6, by rw [hwz.1, hsc.1], by rw [hwz.1]; omega, hwz.be hg hk4 hk hDD hD (by omega), hsc.be hg hk4 hk hDD hD (by omega), fun v7 H7 s7 h7 => ?_⟩
      walk_at "go"
      refine ⟨v7, _, ⟨_, _, rfl⟩, s05.trans (s6.trans s7), h7, ?_, ?_⟩
      · rw [Nat.succ_mul]
        exact rz_plus hg hwz hsc
      · rw [er_plus hg hwz hsc, her, er_times hg tt tr]
        funext j
        show SF (fun l => er W r l * ((t.map (er W)).getD l zr) j) i + W.e (r[i]'(by omega)) * er W (t[i]'(by omega)) j = SF (fun l => er W r l * ((t.map (er W)).getD l zr) j) i + er W r i * ((t.map (er W)).getD i zr) j
        have e1 : (t.map (er W)).getD i zr = er W (t[i]'(by omega)) := by
          rw [List.getD_eq_getElem?_getD, List.getElem?_map, gt1]
          rfl
        rw [e1, er_at (show i < r.length by omega)]
    · obtain ⟨fv, w, ⟨y4, y5, rfl⟩, sm, hw, hwz, her⟩ := hP
      walk_at "go"
      refine q _ _ w sm hw hwz ?_
      rw [her]
      funext j
      show _ = SF (fun l => er W r l * ((t.map (er W)).getD l zr) j) (t.map (er W)).length
      rw [List.length_map, htl]
theorem ok_Form___init__ {f : Addr} {fd : FuncData} (F : FunD K "__init__" "Form.__init__" (defArgs s_Form___init__) (defBody s_Form___init__) (defScope s_Form___init__) [.int 0] [] f fd)
    {f_is_ground : Addr} {fd_is_ground : FuncData} (F_is_ground : FnP K "is_ground" s_is_ground f_is_ground fd_is_ground) (b_is_ground : Binds K fd_is_ground ["thing"] []) (g_is_ground : mg "is_ground" = some (.ref f_is_ground)) (G_is_ground : FnOk P w K mg base CX0 2 f_is_ground fd_is_ground ["thing"] (sp_is_ground K))
    {f_is_form_table : Addr} {fd_is_form_table : FuncData} (F_is_form_table : FnP K "is_form_table" s_is_form_table f_is_form_table fd_is_form_table) (b_is_form_table : Binds K fd_is_form_table ["ground", "thing"] []) (g_is_form_table : mg "is_form_table" = some (.ref f_is_form_table)) (G_is_form_table : FnOk P w K mg base CX0 5 f_is_form_table fd_is_form_table ["ground", "thing"] (sp_is_form_table K)) (CF : FormC K) (CK : KeeperC K) :
    FnOk P w K mg base CX0 6 f fd ["self", "table", "ground"] (sp_Form___init__ K) := by
  refine F.ok sc_Form___init__ (fun vs H Q E h => ?_) (fun cdv A outer s H vs Q E hr h => ?_)
  · obtain ⟨x, dx, tv, g, t, m, D, M, a, F', R, W, rfl, hx, hg, ht, hf, hm1, hm, hmw, hD0, hD, hM, ha4, ha, q⟩ := h
    rfl
  · obtain ⟨x, dx, tv, g, t, m, D, M, a, F', R, W, rfl, hx, hg, ht, hf, hm1, hm, hmw, hD0, hD, hM, ha4, ha, q⟩ := h
    refine ⟨_, PSs.nox (pss_cons (ps_if (pt_not (pt_val (pe_call G_is_ground (hr.mono (by decide)) (by rfl) g_is_ground F_is_ground.kp b_is_ground .nil pass0 (pa_cons (pv 2) pa_nil)))) (pss_one ps_never) pss_nil)
        (pss_cons (ps_if (pt_not (pt_val (pe_call G_is_form_table hr (by rfl) g_is_form_table F_is_form_table.kp b_is_form_table .nil pass0 (pa_cons (pv 2) (pa_cons (pv 1) pa_nil))))) (pss_one ps_never) pss_nil)
        (pss_cons (ps_fld (pv 0) (pv 1) rfl)
        (pss_one (ps_fld (pv 0) (pv 2) rfl))))), ?_⟩
    have hgr : grdB (.int g) = true := by
      unfold Gr5 at hg
      rcases hg with rfl | rfl | rfl | rfl | rfl | rfl <;> rfl
    walk_at "go"
    refine ⟨g, rfl, ?_⟩
    rw [hgr]
    walk_at "go"
    refine iteF ?_
    walk_at "go"
    refine ⟨g, tv, t, m, D, M, a, F', R, W, rfl, hg, ht, hf, hm1, hm, hmw, hD0, hD, hM, ha4, ha, fun H1 s1 => ?_⟩
    walk_at "go"
    refine iteF ?_
    walk_at "go"
    refine ⟨x, _, dx, [], rfl, s1 _ _ hx, CF.c, CF.nt, by decide, ?_⟩
    walk_at "go"
    refine ⟨x, _, dx, _, rfl, upd_same, CF.c, CF.ng, (show 1 < 1000 by decide), ?_⟩
    exact q _ (fun b o n h => by rw [upd_ne n, upd_ne n]; exact s1 _ _ h) (by rw [upd_same]; rfl)
theorem ok_worth_of {f : Addr} {fd : FuncData} (F : FnP K "worth_of" s_worth_of f fd)
    {f_products : Addr} {fd_products : FuncData} (F_products : FnP K "products" s_products f_products fd_products) (b_products : Binds K fd_products ["form", "rows", "others"] []) (g_products : mg "products" = some (.ref f_products)) (G_products : FnOk P w K mg base CX0 5 f_products fd_products ["form", "rows", "others"] (sp_products K)) :
    FnOk P w K mg base CX0 6 f fd ["form", "row"] (sp_worth_of K) := by
  refine F.ok sc_worth_of (fun vs H Q E h => ?_) (fun cdv A outer s H vs Q E hr h => ?_)
  · obtain ⟨g, f, tv, y, t, r, m, Dt, Dr, Mt, Mr, k, F', R, W, rfl, hg, hf, ht, hy, htl, hm1, hm, htz, hrz, hDt, hDr, bDt, bDr, bDD, bMt, bMr, bMM, hk4, hk, q⟩ := h
    rfl
  · obtain ⟨g, f, tv, y, t, r, m, Dt, Dr, Mt, Mr, k, F', R, W, rfl, hg, hf, ht, hy, htl, hm1, hm, htz, hrz, hDt, hDr, bDt, bDr, bDD, bMt, bMr, bMM, hk4, hk, q⟩ := h
    refine ⟨_, PSs.nox (pss_one (ps_ret (pe_ix ix_tup (pe_ix ix_tup (pe_call G_products hr (by rfl) g_products F_products.kp b_products .nil pass0 (pa_cons (pv 0) (pa_cons (pe_tup (pa_cons (pv 1) pa_nil)) (pa_cons (pe_tup (pa_cons (pv 1) pa_nil)) pa_nil)))) pe_int (fun _ _ => rfl)) pe_int (fun _ _ => rfl)))), ?_⟩
    walk_at "go"
    refine w_new (by simp) fun p1 H1 hp1 s1 h1 => ?_
    walk_at "go"
    refine w_new (by simp) fun p2 H2 hp2 s2 h2 => ?_
    walk_at "go"
    have s12 := s1.trans s2
    have hz1 : ∀ q ∈ [r], RZ g Dr Mr m q := fun q hq => by rw [List.mem_singleton.mp hq]; exact hrz
    refine ⟨g, f, tv, .ref p1, .ref p2, t, [r], [r], m, Dt, Dr, Dr, Mt, Mr, Mr, k, F', R, W, rfl, hg, hf.sm s12, TabV.kt ht (Kt.of s12), sqv1 (s2 _ _ h1) (RowV.kt hy (Kt.of s12)), sqv1 h2 (RowV.kt hy (Kt.of s12)), htl, hm1, hm, (show 1 ≤ 10 by decide), (show 1 ≤ 1 by decide), (show 1 ≤ 10 by decide), htz, hz1, hz1, hDt, hDr, hDr, bDt, bDr, bDr, bDD, bMt, bMr, bMr, bMM, hk4, hk, fun v3 H3 T s3 h3 hTl hTz hTe => ?_⟩
    obtain ⟨p3, xs3, rfl, hp3, hl3, hx3⟩ := h3
    have hTl1 : T.length = 1 := hTl
    have gt0 : T[0]? = some (T[0]'(by omega)) := List.getElem?_eq_getElem _
    have gx0 : xs3[0]? = some (xs3[0]'(by omega)) := List.getElem?_eq_getElem _
    have hT0 := hTz _ (List.getElem_mem (show 0 < T.length by omega))
    have hT0l : (T[0]'(by omega)).length = 1 := hT0.1
    obtain ⟨p4, xs4, e4, hp4, hl4, hx4⟩ := hx3 0 _ _ gx0 gt0
    have gt1 : (T[0]'(by omega))[0]? = some ((T[0]'(by omega))[0]'(by omega)) := List.getElem?_eq_getElem _
    have gx1 : xs4[0]? = some (xs4[0]'(by omega)) := List.getElem?_eq_getElem _
    walk_at "go"
    refine w_ixT hp3 (atI_nat (j := 0) gx0) ?_
    rw [e4]
    walk_at "go"
    refine w_ixT hp4 (atI_nat (j := 0) gx1) ?_
    refine q _ _ _ (s12.trans s3) (hx4 0 _ _ gx1 gt1) (hT0.2 _ (List.getElem_mem _)) ?_
    have := hTe 0 0 r r _ rfl rfl gt0
    rw [← this, er_at (show 0 < (T[0]'(by omega)).length by omega)]
theorem ok_Keeper_of {f : Addr} {fd : FuncData} (F : FunD K "of" "Keeper.of" (defArgs s_Keeper_of) (defBody s_Keeper_of) (defScope s_Keeper_of) [] [] f fd)
    {f_want_rows : Addr} {fd_want_rows : FuncData} (F_want_rows : FnP K "want_rows" s_want_rows f_want_rows fd_want_rows) (b_want_rows : Binds K fd_want_rows ["form", "things"] []) (g_want_rows : mg "want_rows" = some (.ref f_want_rows)) (G_want_rows : FnOk P w K mg base CX0 4 f_want_rows fd_want_rows ["form", "things"] (sp_want_rows K))
    {f_through : Addr} {fd_through : FuncData} (F_through : FnP K "through" s_through f_through fd_through) (b_through : Binds K fd_through ["ground", "row", "table"] []) (g_through : mg "through" = some (.ref f_through)) (G_through : FnOk P w K mg base CX0 5 f_through fd_through ["ground", "row", "table"] (sp_through K)) (CF : FormC K) (CK : KeeperC K) :
    FnOk P w K mg base CX0 6 f fd ["self", "row"] (sp_Keeper_of K) := by
  refine F.ok sc_Keeper_of (fun vs H Q E h => ?_) (fun cdv A outer s H vs Q E hr h => ?_)
  · obtain ⟨g, x, f, tv, kv, y, t, T, r, m, D, Dr, M, Mr, k, F', R, W, rfl, hg, hk, hf, ht, hT, hy, htl, hm1, hm, hTl, hTz, hrz, hD, hDr, bD, bDr, bM, bMr, hk4, hk8, q⟩ := h
    rfl
  · obtain ⟨g, x, f, tv, kv, y, t, T, r, m, D, Dr, M, Mr, k, F', R, W, rfl, hg, hk, hf, ht, hT, hy, htl, hm1, hm, hTl, hTz, hrz, hD, hDr, bD, bDr, bM, bMr, hk4, hk8, q⟩ := h
    refine ⟨_, PSs.nox (pss_cons (ps_expr (pe_call G_want_rows (hr.mono (by decide)) (by rfl) g_want_rows F_want_rows.kp b_want_rows .nil pass0 (pa_cons (pe_fld (pv 0) rfl) (pa_cons (pe_lst (pa_cons (pv 1) pa_nil)) pa_nil))))
        (pss_one (ps_ret (pe_call G_through hr (by rfl) g_through F_through.kp b_through .nil pass0 (pa_cons (pe_fld (pe_fld (pv 0) rfl) rfl) (pa_cons (pv 1) (pa_cons (pe_fld (pv 0) rfl) pa_nil))))))), ?_⟩
    walk_at "go"
    refine w_kf CK hk ?_
    walk_at "go"
    refine w_new (by simp) fun L H1 hL s1 h1 => ?_
    walk_at "go"
    refine ⟨f, tv, g, L, [y], t, [r], m, k, rfl, hf.sm s1, TabV.kt ht (Kt.of s1), htl, by omega, h1, acc_one (RowV.kt hy (Kt.of s1)), fun q hq => (by rw [List.mem_singleton.mp hq]; exact ⟨hrz.1, hrz.tn hg hk4 hDr bDr bMr⟩), fun H2 s2 => ?_⟩
    have s12 := s1.trans s2
    walk_at "go"
    refine w_kf CK (hk.sm s12) ?_
    walk_at "go"
    refine w_gnd CF (hf.sm s12) ?_
    walk_at "go"
    refine w_kt CK (hk.sm s12) ?_
    walk_at "go"
    refine ⟨g, y, kv, r, T, m, Dr, D, Mr, M, k, F', R, W, rfl, hg, RowV.kt hy (Kt.of s12), TabV.kt hT (Kt.of s12), hrz, hTl, hTz, hm1, hm, hDr, hD, bDr, bD, bMr, bM, hk4, hk8, fun v3 H3 s3 t3 h3 hz3 e3 => ?_⟩
    exact q _ _ s3 (s12.trans t3) h3 hz3 e3
theorem ok__law_product {f : Addr} {fd : FuncData} (F : FnP K "_law_product" s__law_product f fd)
    {f__law_through : Addr} {fd__law_through : FuncData} (F__law_through : FnP K "_law_through" s__law_through f__law_through fd__law_through) (b__law_through : Binds K fd__law_through ["_law_g", "_law_row_here", "_law_table"] []) (g__law_through : mg "_law_through" = some (.ref f__law_through)) (G__law_through : FnOk P w K mg base CX0 5 f__law_through fd__law_through ["_law_g", "_law_row_here", "_law_table"] (sp__law_through K)) (m_tuple : mg "tuple" = none) :
    FnOk P w K mg base CX0 6 f fd ["_law_g", "_law_one", "_law_other"] (sp__law_product K) := by
  refine F.ok sc__law_product (fun vs H Q E h => ?_) (fun cdv A outer s H vs Q E hr h => ?_)
  · obtain ⟨g, x, y, ss, t, n, m, Dr, Dt, Mr, Mt, k, F', R, W, rfl, hg, hx, hy, hss, hsl, htl, hm1, hm, hn, ht, hDr, hDt, hD, hMr, hMt, hM, hk4, hk, q⟩ := h
    rfl
  · obtain ⟨g, x, y, ss, t, n, m, Dr, Dt, Mr, Mt, k, F', R, W, rfl, hg, hx, hy, hss, hsl, htl, hm1, hm, hn, ht, hDr, hDt, hD, hMr, hMt, hM, hk4, hk, q⟩ := h
    refine ⟨_, PSs.nox (pss_one (ps_ret (pe_callTy call_tuple_of (by rfl) m_tuple (by decide +kernel) (pa_cons (pe_lc (own := [("_law_row_here", 3)]) (g := gName 3) (tt := tYes) (by rfl) sc__law_product.nd (pi_tup (pv 1)) (blkOk_by (own := [("_law_row_here", 3)]) (N := ["_law_g", "_law_one", "_law_other", "_law_row_here"]) (sc := defScope s__law_product) (by decide +kernel)) (fun _ _ _ _ _ => (pg_name (i := 3) sc__law_product.nd rfl (.inl rfl))) (fun _ _ _ _ _ => pts_nil) (fun _ _ _ _ _ => (pe_call G__law_through hr (by rfl) g__law_through F__law_through.kp b__law_through .nil pass0 (pa_cons (pv 0) (pa_cons (pv 3) (pa_cons (pv 2) pa_nil)))))) pa_nil)))), ?_⟩
    obtain ⟨px, xs, rfl, hpx, hlx, hxs⟩ := hx
    walk_at "go"
    refine ⟨px, rfl, ⟨xs, SqT.of hpx⟩, fun D hDn => ?_⟩
    refine lc_tup (xs := xs) (fun i H' => Same H H' ∧ ∃ zs T, H' D = some (.lst zs) ∧ T.length = i ∧ Acc RowV H' zs T i ∧ (∀ r ∈ T, RZ g (Dt * Dr) (m * (Mt * Mr)) n r) ∧ T.map (er W) = ((ss.take i).map (er W)).map (thr (t.map (er W)))) ⟨Same.updD (Same.refl H) hDn, [], [], upd_same, rfl, Acc.nil, fun r hr => (by cases hr), rfl⟩ (fun i H' _ hP => SqT.of (hP.1 _ _ hpx)) (fun i x H1 hxi hP => ?_) (fun H' hP => ?_)
    · obtain ⟨sm, zs, T, hzs, hTl, hz, hTz, hTe⟩ := hP
      have hi : i < ss.length := by
        have := (List.getElem?_eq_some_iff.mp hxi).1
        omega
      have gs : ss[i]? = some ss[i] := List.getElem?_eq_getElem hi
      walk_at "go"
      refine ⟨rfl, ?_⟩
      walk_at "go"
      refine ⟨g, x, y, ss[i], t, n, m, Dr, Dt, Mr, Mt, k, F', R, W, rfl, hg, RowV.kt (hxs i x _ hxi gs) (Kt.of sm), TabV.kt hy (Kt.of sm), hss _ (List.getElem_mem hi), htl, hm1, hm, hn, ht, hDr, hDt, hD, hMr, hMt, hM, hk4, hk, fun v3 H3 w s3 h3 hwz hwe => ?_⟩
      have h3D := s3 _ _ hzs
      have kt : Kt H1 (upd H3 D (.lst (zs ++ [v3]))) := (Kt.of s3).trans (Kt.updL h3D)
      refine ⟨zs, h3D, small1000 (by rw [hz.1]; omega), Same.updD (sm.trans s3) hDn, _, T ++ [w], upd_same, by rw [List.length_append, hTl]; rfl, acc_app (hz.mono fun x a h => RowV.kt h kt) hTl (RowV.kt h3 (Kt.updL h3D)), fun r hr => ?_, ?_⟩
      · rcases List.mem_append.mp hr with h | h
        · exact hTz r h
        · rw [List.mem_singleton.mp h]
          exact hwz
      · rw [List.map_append, hTe, List.take_add_one, gs, Option.toList_some, List.map_append, List.map_append]
        show _ ++ [er W w] = _ ++ [thr (t.map (er W)) (er W ss[i])]
        rw [hwe]
    · obtain ⟨sm, zs, T, hzs, hTl, hz, hTz, hTe⟩ := hP
      rw [List.take_of_length_le (show ss.length ≤ xs.length by omega)] at hTe
      walk_at "go"
      refine ⟨_, _, rfl, .inl ⟨SqL.of hzs, fun l hl' => ?_⟩⟩
      exact q _ _ T (sm.trans (same_upd hl')) ((hz.mono fun x a h => RowV.kt h (Kt.of (same_upd hl'))).sq hTl.symm upd_same) (by omega) hTz hTe
theorem ok__law_pair {f : Addr} {fd : FuncData} (F : FnP K "_law_pair" s__law_pair f fd)
    {f__law_sum : Addr} {fd__law_sum : FuncData} (F__law_sum : FnP K "_law_sum" s__law_sum f__law_sum fd__law_sum) (b__law_sum : Binds K fd__law_sum ["_law_g", "_law_some"] []) (g__law_sum : mg "_law_sum" = some (.ref f__law_sum)) (G__law_sum : FnOk P w K mg base CX0 4 f__law_sum fd__law_sum ["_law_g", "_law_some"] (sp__law_sum K))
    {f__law_times : Addr} {fd__law_times : FuncData} (F__law_times : FnP K "_law_times" s__law_times f__law_times fd__law_times) (b__law_times : Binds K fd__law_times ["_law_g", "_law_x", "_law_y"] []) (g__law_times : mg "_law_times" = some (.ref f__law_times)) (G__law_times : FnOk P w K mg base CX0 3 f__law_times fd__law_times ["_law_g", "_law_x", "_law_y"] (sp__law_times K))
    {f__law_through : Addr} {fd__law_through : FuncData} (F__law_through : FnP K "_law_through" s__law_through f__law_through fd__law_through) (b__law_through : Binds K fd__law_through ["_law_g", "_law_row_here", "_law_table"] []) (g__law_through : mg "_law_through" = some (.ref f__law_through)) (G__law_through : FnOk P w K mg base CX0 5 f__law_through fd__law_through ["_law_g", "_law_row_here", "_law_table"] (sp__law_through K)) (m_zip : mg "zip" = none) :
    FnOk P w K mg base CX0 6 f fd ["_law_g", "_law_table", "_law_row_here", "_law_other"] (sp__law_pair K) := by
  refine F.ok sc__law_pair (fun vs H Q E h => ?_) (fun cdv A outer s H vs Q E hr h => ?_)
  · obtain ⟨g, x, y, z, t, r, s', m, Dt, Dr, Ds, Mt, Mr, Ms, k, F', R, W, rfl, hg, hx, hy, hz, htl, hm1, hm, ht, htr, hts, hDt, hDr, hDs, hD, hMt, hMr, hMs, hM1, hM2, hk4, hk, q⟩ := h
    rfl
  · obtain ⟨g, x, y, z, t, r, s', m, Dt, Dr, Ds, Mt, Mr, Ms, k, F', R, W, rfl, hg, hx, hy, hz, htl, hm1, hm, ht, htr, hts, hDt, hDr, hDs, hD, hMt, hMr, hMs, hM1, hM2, hk4, hk, q⟩ := h
    refine ⟨_, PSs.nox (pss_one (ps_ret (pe_call G__law_sum (hr.mono (by decide)) (by rfl) g__law_sum F__law_sum.kp b__law_sum .nil pass0 (pa_cons (pv 0) (pa_cons (pe_lc (own := [("_law_x", 4), ("_law_y", 5)]) (g := gTup K 2 (gCons (gName 4) (gCons (gName 5) (gNil)))) (tt := tYes) (by rfl) sc__law_pair.nd (RZ.pi_zipA (by rfl) m_zip (pa_cons (pe_call G__law_through hr (by rfl) g__law_through F__law_through.kp b__law_through .nil pass0 (pa_cons (pv 0) (pa_cons (pv 2) (pa_cons (pv 1) pa_nil)))) (pa_cons (pv 3) pa_nil))) (blkOk_by (own := [("_law_x", 4), ("_law_y", 5)]) (N := ["_law_g", "_law_table", "_law_row_here", "_law_other", "_law_x", "_law_y"]) (sc := defScope s__law_pair) (by decide +kernel)) (fun _ _ _ _ _ => (pg_tup rfl (pgs_cons (pg_name (i := 4) sc__law_pair.nd rfl (.inl rfl)) (pgs_cons (pg_name (i := 5) sc__law_pair.nd rfl (.inl rfl)) pgs_nil)))) (fun _ _ _ _ _ => pts_nil) (fun _ _ _ _ _ => (pe_call G__law_times (hr.mono (by decide)) (by rfl) g__law_times F__law_times.kp b__law_times .nil pass0 (pa_cons (pv 0) (pa_cons (pv 4) (pa_cons (pv 5) pa_nil)))))) pa_nil))))), ?_⟩
    have ⟨hg0, hg13⟩ := grb hg
    have hD2 : (Dt * Dr).natAbs < 2 ^ k := by
      rw [Int.natAbs_mul] at hD
      exact Nat.lt_of_le_of_lt (Nat.le_mul_of_pos_right _ (by omega)) hD
    have hDsk : Ds.natAbs < 2 ^ k := by
      rw [Int.natAbs_mul] at hD
      refine Nat.lt_of_le_of_lt (Nat.le_mul_of_pos_left _ ?_) hD
      have := Int.mul_ne_zero hDt hDr
      omega
    have hDD := Int.mul_ne_zero hDt hDr
    have hm1k : m * (Mt * Mr) < 2 ^ k := Nat.lt_of_le_of_lt (Nat.mul_le_mul_right _ (by omega)) hM1
    walk_at "go"
    refine ⟨g, y, x, r, t, m, m, Dr, Dt, Mr, Mt, k, F', R, W, rfl, hg, hy, hx, htr, htl, hm1, hm, hm, ht, hDr, hDt, hD2, hMr, hMt, hM1, hk4, hk, fun v1 H1 w s1 h1 hwz hwe => ?_⟩
    obtain ⟨px, xs, rfl, hpx, hlx, hxs⟩ := h1
    obtain ⟨py, ys, rfl, hpy, hly, hys⟩ := RowV.kt hz (Kt.of s1)
    have hwl := hwz.1
    have hsl := hts.1
    walk_at "go"
    refine ⟨px, py, xs, ys, rfl, .inr ⟨SqT.of hpx, SqT.of hpy, fun D hDn => ?_⟩⟩
    refine lc_it (walk_zipT (xs := xs) (ys := ys) (n := m) (by omega)) (fun i H' => Same H1 H' ∧ ∃ zs : List V, H' D = some (.lst zs) ∧ Acc NumV H' zs (List.zipWith (timesF g) w s') i) ⟨Same.updD (Same.refl H1) hDn, [], upd_same, Acc.nil⟩ (fun i H' _ hP => ⟨SqT.of (hP.1 _ _ hpx), SqT.of (hP.1 _ _ hpy)⟩) (fun i v Ha Hb hi hP hY => ?_) (fun H' hP => ?_)
    · obtain ⟨sm, zs, hzs, hz⟩ := hP
      obtain ⟨T, u, v', rfl, hT, rfl, hu, hv⟩ := hY
      have s2 : Same Ha (upd Ha T (.tup [u, v'])) := same_upd hT
      have hTT : (upd Ha T (.tup [u, v'])) T = some (.tup [u, v']) := upd_same
      generalize upd Ha T (.tup [u, v']) = H2 at s2 hTT ⊢
      have ga : w[i]? = some (w[i]'(by omega)) := List.getElem?_eq_getElem _
      have gc : s'[i]? = some (s'[i]'(by omega)) := List.getElem?_eq_getElem _
      have na := hwz.2 _ (List.getElem_mem (show i < w.length by omega))
      have nc := hts.2 _ (List.getElem_mem (show i < s'.length by omega))
      walk_at "go"
      refine ⟨rfl, ?_⟩
      walk_at "go"
      have s02 := sm.trans s2
      refine ⟨g, u, v', _, _, rfl, hg0, hg13, (hxs i u _ hu ga).kt (Kt.of s02), (hys i v' _ hv gc).kt (Kt.of s02), (na.tn hg hk4 hDD hD2 hm1k).be hk, (nc.tn hg hk4 hDs hDsk hMs).be hk, fun p3 H3 hp3 s3 h3 => ?_⟩
      have h3D := s3 _ _ (s2 _ _ hzs)
      have kt : Kt Ha (upd H3 D (.lst (zs ++ [V.ref p3]))) := (Kt.of (s2.trans s3)).trans (Kt.updL h3D)
      refine ⟨zs, h3D, small1000 (by rw [hz.1]; omega), Same.updD (s02.trans s3) hDn, _, upd_same, ?_⟩
      exact (hz.mono fun x a h => NumV.kt h kt).snoc (a := timesF g (w[i]'(by omega)) (s'[i]'(by omega))) (by rw [List.getElem?_zipWith, ga, gc]) ⟨p3, rfl, Kt.updL h3D _ _ h3⟩
    · obtain ⟨sm, zs, hzs, hz⟩ := hP
      have hzl : (List.zipWith (timesF g) w s').length = m := by rw [List.length_zipWith]; omega
      walk_at "go"
      refine ⟨g, D, zs, List.zipWith (timesF g) w s', Dt * Dr * Ds, m * (Mt * Mr) * Ms, k, F', R, W, rfl, hg, hzs, by rw [hzl]; exact hz, fun a ha => ?_, Int.mul_ne_zero hDD hDs, hD, by rw [hzl]; exact hM2, hk4, hk, fun v4 H4 d s4 h4 td ed => ?_⟩
      · obtain ⟨x, hx', rfl⟩ := List.mem_iff_getElem.mp ha
        rw [List.length_zipWith] at hx'
        rw [List.getElem_zipWith]
        exact (hwz.2 _ (List.getElem_mem _)).times hg (hts.2 _ (List.getElem_mem _))
      · rw [hzl] at td ed
        refine q _ _ d (s1.trans (sm.trans s4)) h4 td ?_
        rw [ed]
        show _ = SF (fun j => thr (t.map (er W)) (er W r) j * er W s' j) m
        refine SF_congr fun i hi => ?_
        have h1 : i < w.length := by omega
        have h2 : i < s'.length := by omega
        obtain ⟨⟨l, _, hl⟩, _⟩ := hwz.2 _ (List.getElem_mem h1)
        obtain ⟨⟨l', _, hl'⟩, _⟩ := hts.2 _ (List.getElem_mem h2)
        have e1 : (List.zipWith (timesF g) w s').getD i (0, 1) = timesF g w[i] s'[i] := by
          rw [List.getD_eq_getElem?_getD, List.getElem?_zipWith, List.getElem?_eq_getElem h1, List.getElem?_eq_getElem h2]
          rfl
        rw [e1, W.times hg hl hl', ← hwe, er_at h1, er_at h2]
theorem ok_want_worths {f : Addr} {fd : FuncData} (F : FnP K "want_worths" s_want_worths f fd)
    {f_worth_of : Addr} {fd_worth_of : FuncData} (F_worth_of : FnP K "worth_of" s_worth_of f_worth_of fd_worth_of) (b_worth_of : Binds K fd_worth_of ["form", "row"] []) (g_worth_of : mg "worth_of" = some (.ref f_worth_of)) (G_worth_of : FnOk P w K mg base CX0 6 f_worth_of fd_worth_of ["form", "row"] (sp_worth_of K)) :
    FnOk P w K mg base CX0 7 f fd ["form", "rows"] (sp_want_worths K) := by
  refine F.ok sc_want_worths (fun vs H Q E h => ?_) (fun cdv A outer s H vs Q E hr h => ?_)
  · obtain ⟨g, f, tv, L, xs, t, rs, m, Dt, Dr, Mt, Mr, k, F', R, W, rfl, hg, hf, ht, hL, hacc, htl, hm1, hm, htz, hrs, hDt, hDr, bDt, bDr, bDD, bMt, bMr, bMM, hk4, hk, q⟩ := h
    rfl
  · obtain ⟨g, f, tv, L, xs, t, rs, m, Dt, Dr, Mt, Mr, k, F', R, W, rfl, hg, hf, ht, hL, hacc, htl, hm1, hm, htz, hrs, hDt, hDr, bDt, bDr, bDD, bMt, bMr, bMM, hk4, hk, q⟩ := h
    refine ⟨_, PSs.nox (pss_one (ps_for PassesOwn.never rfl (pi_list (pv 1)) (pg_name (i := 2) sc_want_worths.nd rfl (.inl rfl)) (pss_one (ps_if (pt_cmpR op_eq (pe_ix ix_tup (pe_call G_worth_of hr (by rfl) g_worth_of F_worth_of.kp b_worth_of .nil pass0 (pa_cons (pv 0) (pa_cons (pv 2) pa_nil))) pe_int (fun _ _ => rfl)) pe_int (nomark _)) (pss_one ps_never) pss_nil)))), ?_⟩
    walk_at "go"
    refine ⟨L, rfl, ⟨xs, SqL.of hL⟩, ?_⟩
    refine for_list (xs := xs) (fun i σ H' => (∃ y2, σ = [some f, some (.ref L), y2]) ∧ Same H H') ⟨⟨_, rfl⟩, Same.refl H⟩ (fun i σ H' _ hP => SqL.of (hP.2 _ _ hL)) (fun i x σ H' hxi hP => ?_) (fun σ H' hP => ?_)
    · obtain ⟨⟨y2, rfl⟩, sm⟩ := hP
      have hi : i < rs.length := by
        have := (List.getElem?_eq_some_iff.mp hxi).1
        have := hacc.1
        omega
      have gr : rs[i]? = some rs[i] := List.getElem?_eq_getElem hi
      have hr' := hrs _ (List.getElem_mem hi)
      have hx := RowV.kt (hacc.2 i x _ hxi gr) (Kt.of sm)
      walk_at "go"
      refine ⟨g, f, tv, x, t, rs[i], m, Dt, Dr, Mt, Mr, k, F', R, W, rfl, hg, hf.sm sm, TabV.kt ht (Kt.of sm), hx, htl, hm1, hm, htz, hr'.1, hDt, hDr, bDt, bDr, bDD, bMt, bMr, bMM, hk4, hk, fun v1 H1 d s1 h1 td ed => ?_⟩
      obtain ⟨p1, rfl, hp1⟩ := h1
      obtain ⟨⟨l, _, hl⟩, _⟩ := td
      have hd0 : d.1 ≠ 0 := fun z => hr'.2 (by rw [← ed]; exact (e_zero hg hl).mpr z)
      walk_at "go"
      rw [decide_eq_false hd0]
      walk_at "go"
      exact ⟨⟨_, rfl⟩, sm.trans s1⟩
    · exact q _ hP.2
theorem ok__law_worth {f : Addr} {fd : FuncData} (F : FnP K "_law_worth" s__law_worth f fd)
    {f__law_pair : Addr} {fd__law_pair : FuncData} (F__law_pair : FnP K "_law_pair" s__law_pair f__law_pair fd__law_pair) (b__law_pair : Binds K fd__law_pair ["_law_g", "_law_table", "_law_row_here", "_law_other"] []) (g__law_pair : mg "_law_pair" = some (.ref f__law_pair)) (G__law_pair : FnOk P w K mg base CX0 6 f__law_pair fd__law_pair ["_law_g", "_law_table", "_law_row_here", "_law_other"] (sp__law_pair K)) :
    FnOk P w K mg base CX0 7 f fd ["_law_g", "_law_table", "_law_row_here"] (sp__law_worth K) := by
  refine F.ok sc__law_worth (fun vs H Q E h => ?_) (fun cdv A outer s H vs Q E hr h => ?_)
  · obtain ⟨g, x, y, t, r, m, Dt, Dr, Mt, Mr, k, F', R, W, rfl, hg, hx, hy, htl, hm1, hm, ht, htr, hDt, hDr, hD, hMt, hMr, hM1, hM2, hk4, hk, q⟩ := h
    rfl
  · obtain ⟨g, x, y, t, r, m, Dt, Dr, Mt, Mr, k, F', R, W, rfl, hg, hx, hy, htl, hm1, hm, ht, htr, hDt, hDr, hD, hMt, hMr, hM1, hM2, hk4, hk, q⟩ := h
    refine ⟨_, PSs.nox (pss_one (ps_ret (pe_call G__law_pair hr (by rfl) g__law_pair F__law_pair.kp b__law_pair .nil pass0 (pa_cons (pv 0) (pa_cons (pv 1) (pa_cons (pv 2) (pa_cons (pv 2) pa_nil))))))), ?_⟩
    walk_at "go"
    exact ⟨g, x, y, y, t, r, r, m, Dt, Dr, Dr, Mt, Mr, Mr, k, F', R, W, rfl, hg, hx, hy, hy, htl, hm1, hm, ht, htr, htr, hDt, hDr, hDr, hD, hMt, hMr, hMr, hM1, hM2, hk4, hk, q⟩
theorem ok__law_changed {f : Addr} {fd : FuncData} (F : FnP K "_law_changed" s__law_changed f fd)
    {f__law_take : Addr} {fd__law_take : FuncData} (F__law_take : FnP K "_law_take" s__law_take f__law_take fd__law_take) (b__law_take : Binds K fd__law_take ["_law_bag_here", "_law_many"] []) (g__law_take : mg "_law_take" = some (.ref f__law_take)) (G__law_take : FnOk P w K mg base CX0 1 f__law_take fd__law_take ["_law_bag_here", "_law_many"] (sp__law_take K))
    {f__law_product : Addr} {fd__law_product : FuncData} (F__law_product : FnP K "_law_product" s__law_product f__law_product fd__law_product) (b__law_product : Binds K fd__law_product ["_law_g", "_law_one", "_law_other"] []) (g__law_product : mg "_law_product" = some (.ref f__law_product)) (G__law_product : FnOk P w K mg base CX0 6 f__law_product fd__law_product ["_law_g", "_law_one", "_law_other"] (sp__law_product K))
    {f__law_turned : Addr} {fd__law_turned : FuncData} (F__law_turned : FnP K "_law_turned" s__law_turned f__law_turned fd__law_turned) (b__law_turned : Binds K fd__law_turned ["_law_table"] []) (g__law_turned : mg "_law_turned" = some (.ref f__law_turned)) (G__law_turned : FnOk P w K mg base CX0 1 f__law_turned fd__law_turned ["_law_table"] (sp__law_turned K))
    {f__law_minus : Addr} {fd__law_minus : FuncData} (F__law_minus : FnP K "_law_minus" s__law_minus f__law_minus fd__law_minus) (b__law_minus : Binds K fd__law_minus ["_law_g", "_law_x"] []) (g__law_minus : mg "_law_minus" = some (.ref f__law_minus)) (G__law_minus : FnOk P w K mg base CX0 3 f__law_minus fd__law_minus ["_law_g", "_law_x"] (sp__law_minus K))
    {f__law_low : Addr} {fd__law_low : FuncData} (F__law_low : FnP K "_law_low" s__law_low f__law_low fd__law_low) (b__law_low : Binds K fd__law_low ["_law_g", "_law_up", "_law_down"] []) (g__law_low : mg "_law_low" = some (.ref f__law_low)) (G__law_low : FnOk P w K mg base CX0 2 f__law_low fd__law_low ["_law_g", "_law_up", "_law_down"] (sp__law_low K))
    {f__law_ones : Addr} {fd__law_ones : FuncData} (F__law_ones : FnP K "_law_ones" s__law_ones f__law_ones fd__law_ones) (b__law_ones : Binds K fd__law_ones ["_law_many"] []) (g__law_ones : mg "_law_ones" = some (.ref f__law_ones)) (G__law_ones : FnOk P w K mg base CX0 1 f__law_ones fd__law_ones ["_law_many"] (sp__law_ones K)) (m_len : mg "len" = none) (m_range : mg "range" = none) (m_tuple : mg "tuple" = none) (m_list : mg "list" = none) :
    FnOk P w K mg base CX0 7 f fd ["_law_bag_here", "_law_g", "_law_table"] (sp__law_changed K) := by
  refine F.ok sc__law_changed (fun vs H Q E h => ?_) (fun cdv A outer s H vs Q E hr h => ?_)
  · obtain ⟨b, g, x, t, m, F', R, W, rfl, hgr, hb, hx, hf, hm1, hm, q⟩ := h
    rfl
  · obtain ⟨b, g, x, t, m, F', R, W, rfl, hgr, hb, hx, hf, hm1, hm, q⟩ := h
    refine ⟨_, PSs.nox (pss_cons (ps_set (i := 3) sc__law_changed.nd rfl (.inl rfl) (pe_callB call_len_seq (by rfl) m_len (by decide +kernel) (pa_cons (pv 2) pa_nil)))
        (pss_cons (ps_for PassesOwn.never rfl (pi_range1 (by rfl) m_range (pa_cons (pe_ifExp (pt_cmpR op_gt (pv 3) pe_int (nomark _)) (pe_call G__law_take (hr.mono (by decide)) (by rfl) g__law_take F__law_take.kp b__law_take .nil pass0 (pa_cons (pv 0) (pa_cons pe_int pa_nil))) pe_int) pa_nil)) (pg_name (i := 4) sc__law_changed.nd rfl (.inl rfl)) (pss_cons (ps_set (i := 5) sc__law_changed.nd rfl (.inl rfl) (pe_call G__law_take (hr.mono (by decide)) (by rfl) g__law_take F__law_take.kp b__law_take .nil pass0 (pa_cons (pv 0) (pa_cons (pv 3) pa_nil))))
        (pss_cons (ps_set (i := 6) sc__law_changed.nd rfl (.inl rfl) (pe_op op_modN (pe_op op_add (pe_op op_add (pv 5) pe_int) (pe_call G__law_take (hr.mono (by decide)) (by rfl) g__law_take F__law_take.kp b__law_take .nil pass0 (pa_cons (pv 0) (pa_cons (pe_op op_sub (pv 3) pe_int) pa_nil)))) (pv 3)))
        (pss_cons (ps_set (i := 7) sc__law_changed.nd rfl (.inl rfl) (pe_ix ix_list (pe_lst (pa_cons (pe_tup (pa_cons pe_int (pa_cons pe_int pa_nil))) (pa_cons (pe_call G__law_minus (hr.mono (by decide)) (by rfl) g__law_minus F__law_minus.kp b__law_minus .nil pass0 (pa_cons (pv 1) (pa_cons (pe_tup (pa_cons pe_int (pa_cons pe_int pa_nil))) pa_nil))) (pa_cons (pe_call G__law_low (hr.mono (by decide)) (by rfl) g__law_low F__law_low.kp b__law_low .nil pass0 (pa_cons (pv 1) (pa_cons pe_int (pa_cons pe_int pa_nil)))) pa_nil)))) (pe_call G__law_take (hr.mono (by decide)) (by rfl) g__law_take F__law_take.kp b__law_take .nil pass0 (pa_cons (pv 0) (pa_cons pe_int pa_nil))) (fun _ _ => rfl)))
        (pss_cons (ps_setLc (i := 8) (own := [("_law_row_here", 10)]) (g := gName 10) (tt := tYes) (by rfl) sc__law_changed.nd rfl rfl (sw_true rfl rfl rfl (by decide +kernel)) (pi_tup (pe_call G__law_ones (hr.mono (by decide)) (by rfl) g__law_ones F__law_ones.kp b__law_ones .nil pass0 (pa_cons (pv 3) pa_nil))) (blkOk_by (own := [("_law_row_here", 10)]) (N := ["_law_bag_here", "_law_g", "_law_table", "_law_many", "_law_turn", "_law_i", "_law_j", "_law_x", "_law_letters_here", "_law_step", "_law_row_here"]) (sc := defScope s__law_changed) (by decide +kernel)) (fun _ _ _ _ _ => (pg_name (i := 10) sc__law_changed.nd rfl (.inl rfl))) (fun _ _ _ _ _ => pts_nil) (fun _ _ _ _ _ => (pe_callTy (r := fun xs H Q => ∃ p ys, xs = [V.ref p] ∧ (SqL K H p ys ∨ SqT K H p ys) ∧ ∀ l : Addr, H l = none → Q (V.ref l) (upd H l (HO.lst ys))) call_list_of (by rfl) m_list (by decide +kernel) (pa_cons (pv 10) pa_nil))))
        (pss_cons (ps_asg (pv 7) (pg_sub (pe_ix ix_list (pv 8) (pv 5) (fun _ _ => rfl)) (pv 6) set_list))
        (pss_cons (ps_set (i := 9) sc__law_changed.nd rfl (.inl rfl) (pe_callTy call_tuple_of (by rfl) m_tuple (by decide +kernel) (pa_cons (pe_lc (own := [("_law_row_here", 10)]) (g := gName 10) (tt := tYes) (by rfl) sc__law_changed.nd (pi_list (pv 8)) (blkOk_by (own := [("_law_row_here", 10)]) (N := ["_law_bag_here", "_law_g", "_law_table", "_law_many", "_law_turn", "_law_i", "_law_j", "_law_x", "_law_letters_here", "_law_step", "_law_row_here"]) (sc := defScope s__law_changed) (by decide +kernel)) (fun _ _ _ _ _ => (pg_name (i := 10) sc__law_changed.nd rfl (.inl rfl))) (fun _ _ _ _ _ => pts_nil) (fun _ _ _ _ _ => (pe_callTy (r := rTupOf K) call_tupOf (by rfl) m_tuple (by decide +kernel) (pa_cons (pv 10) pa_nil)))) pa_nil)))
        (pss_one (ps_set (i := 2) sc__law_changed.nd rfl (.inl rfl) (pe_call G__law_product hr (by rfl) g__law_product F__law_product.kp b__law_product .nil pass0 (pa_cons (pv 1) (pa_cons (pe_call G__law_product hr (by rfl) g__law_product F__law_product.kp b__law_product .nil pass0 (pa_cons (pv 1) (pa_cons (pv 9) (pa_cons (pv 2) pa_nil)))) (pa_cons (pe_call G__law_turned (hr.mono (by decide)) (by rfl) g__law_turned F__law_turned.kp b__law_turned .nil pass0 (pa_cons (pv 9) pa_nil)) pa_nil)))))))))))))
        (pss_one (ps_ret (pv 2))))), ?_⟩
    have hg := hgr.two
    have ⟨hg0, hg13⟩ := hgr.bd
    obtain ⟨p, xs, rfl, hp, hlx, hxs⟩ := hx
    have htl := hf.len
    have htx : xs.length = m := by omega
    have hbp : Kt H H := fun _ _ h => h
    walk_at "go"
    refine ⟨p, xs, rfl, .inr (SqT.of hp), ?_⟩
    walk_at "go"
    have hx0 : TabV H (.ref p) t := ⟨p, xs, rfl, hp, hlx, hxs⟩
    have main : ∀ (n : Nat) (H1 : Hp), n ≤ 4 → (n = 0 ∨ 2 ≤ m) → Mv b H H1 → Bag H1 b → TabV H1 (.ref p) t → ∀ (D' : Ends) (q' : ∀ (H' : Hp) (v : V) (T : List (List (Int × Int))) (y4 y5 y6 y7 y8 y9 y10 : Option V), TabV H' v T → FrmT W 2520 16128000000000 m T → Mv b H H' → Bag H' b → D'.nx [some (.ref b), some (.int g), some v, some (.int (m : Int)), y4, y5, y6, y7, y8, y9, y10] H'), True := fun _ _ _ _ _ _ _ _ _ => trivial
    clear main
    refine w_ite (fun hc => ?_) (fun hc => ?_)
    · walk_at "go"
      refine ⟨b, 5, rfl, by decide, by decide, hb, fun H1 dn h10 h11 m1 hb1 => ?_⟩
      walk_at "go"
      refine ⟨by omega, by omega, ?_⟩
      refine for_range (fun i σ H' => ∃ (tv : V) (T : List (List (Int × Int))), (∃ y4 y5 y6 y7 y8 y9 y10, σ = [some (.ref b), some (.int g), some tv, some (.int (xs.length : Int)), y4, y5, y6, y7, y8, y9, y10]) ∧ Mv b H H' ∧ Bag H' b ∧ TabV H' tv T ∧ FrmT W 2520 (161280 * 100 ^ i) m T) ⟨.ref p, t, ⟨_, _, _, _, _, _, _, rfl⟩, m1, hb1, TabV.kt hx0 (m1.kt hb), hf⟩ (fun i σ H' hi hP => ?_) (fun σ H' hP => ?_)
      · obtain ⟨tv, T, ⟨y4, y5, y6, y7, y8, y9, y10, rfl⟩, mv, hbi, hT, hfT⟩ := hP
        have hi4 : i < 4 := by omega
        have hMi : 161280 * 100 ^ i ≤ 161280000000 := by
          have : 100 ^ i ≤ 100 ^ 3 := Nat.pow_le_pow_right (by decide) (by omega)
          omega
        walk_at "go"
        refine ⟨b, xs.length, rfl, by omega, by omega, hbi, fun H2 di h20 h21 m2 hb2 => ?_⟩
        walk_at "go"
        refine ⟨b, (xs.length : Int) - 1, rfl, by omega, by omega, hb2, fun H3 dj h30 h31 m3 hb3 => ?_⟩
        walk_at "go"
        refine w_I (by omega) ?_
        walk_at "go"
        obtain ⟨ni, eni⟩ : ∃ ni : Nat, di = (ni : Int) := ⟨di.toNat, by omega⟩
        have hj0 : 0 ≤ (di + 1 + dj).fmod (xs.length : Int) ∧ (di + 1 + dj).fmod (xs.length : Int) < (xs.length : Int) ∧ (di + 1 + dj).fmod (xs.length : Int) ≠ di := by
          rw [fmod_pos _ (by omega)]
          refine ⟨Int.emod_nonneg _ (by omega), Int.emod_lt_of_pos _ (by omega), fun z => ?_⟩
          by_cases hlt : di + 1 + dj < (xs.length : Int)
          · rw [Int.emod_eq_of_lt (by omega) hlt] at z
            omega
          · have e : (di + 1 + dj) % (xs.length : Int) = di + 1 + dj - (xs.length : Int) := by
              rw [← Int.sub_emod_right, Int.emod_eq_of_lt (by omega) (by omega)]
            omega
        generalize (di + 1 + dj).fmod (xs.length : Int) = nj' at hj0 ⊢
        obtain ⟨nj, enj⟩ : ∃ nj : Nat, nj' = (nj : Int) := ⟨nj'.toNat, by omega⟩
        subst eni enj
        have hni : ni < m := by omega
        have hnj : nj < m := by omega
        have hij : ni ≠ nj := by omega
        have m03 := mv.trans (m2.trans m3)
        have kt3 : Kt H' H3 := (m2.kt hbi).trans (m3.kt hb2)
        have hT3 := TabV.kt hT kt3
        refine w_new (by simp) fun o4 H4 ho4 s4 h4 => ?_
        walk_at "go"
        refine w_new (by simp) fun o5 H5 ho5 s5 h5 => ?_
        refine ⟨g, .ref o5, (1, 1), rfl, hg0, hg13, ⟨o5, rfl, h5⟩, by show (1 : Int).natAbs < 2 ^ 8000; exact Nat.lt_of_lt_of_le (show 1 < 2 ^ 1 by decide) (Nat.pow_le_pow_right (by decide) (by decide)), by decide, fun p6 H6 hp6 s6 h6 => ?_⟩
        walk_at "go"
        refine ⟨g, 2, 1, rfl, hg0, hg13, by decide, by exact Nat.lt_of_lt_of_le (show (1 : Int).natAbs < 2 ^ 1 by decide) (Nat.pow_le_pow_right (by decide) (by decide)), fun p7 H7 hp7 s7 h7 => ?_⟩
        walk_at "go"
        refine w_new (by simp) fun p8 H8 hp8 s8 h8 => ?_
        have s38 := s4.trans (s5.trans (s6.trans (s7.trans s8)))
        walk_at "go"
        refine ⟨b, 3, rfl, by decide, by decide, hb3.same s38, fun H9 d9 h90 h91 m9 hb9 => ?_⟩
        have nb8 : p8 ≠ b := bag_ne (hb3.same (s4.trans (s5.trans (s6.trans s7)))) hp8
        obtain ⟨xv, exv, hxv⟩ := pick3 (x := V.ref o4) (y := V.ref p6) (z := V.ref p7) h90 h91
        refine w_ixL (m9 _ _ nb8 h8) exv ?_
        have kt89 : Kt H8 H9 := m9.kt (hb3.same s38)
        obtain ⟨xa, hxa, hxz, hxt⟩ : ∃ xa, NumV H9 xv xa ∧ TZ g 1 2 xa ∧ True := by
          rcases hxv with rfl | rfl | rfl
          · exact ⟨(1, 1), ⟨o4, rfl, kt89 _ _ (s8 _ _ (s7 _ _ (s6 _ _ (s5 _ _ h4))))⟩, (TZ.one hg).mono (by decide), trivial⟩
          · exact ⟨_, ⟨p6, rfl, kt89 _ _ (s8 _ _ (s7 _ _ h6))⟩, ((TZ.one hg).minus hg).mono (by decide), trivial⟩
          · exact ⟨_, ⟨p7, rfl, kt89 _ _ (s8 _ _ h7)⟩, tz_low1 hg 2 (by decide), trivial⟩
        have kt39 : Kt H3 H9 := (Kt.of s38).trans kt89
        have m09 := m03.trans ((Mv.same s38).trans m9)
        walk_at "go"
        refine ⟨m, by rw [htx]; rfl, by omega, fun v10 H10 s10 h10 => ?_⟩
        obtain ⟨p10, x10, rfl, hp10, hl10, ha10⟩ := sqv_acc h10
        have hol : (onesF m).length = m := by unfold onesF; rw [List.length_map, List.length_range]
        walk_at "go"
        refine ⟨p10, rfl, ⟨_, SqT.of hp10⟩, fun D hD => ?_⟩
        refine lc_tup (xs := x10) (fun j H' => Same H10 H' ∧ ∃ zs, H' D = some (.lst zs) ∧ zs.Nodup ∧ (∀ v ∈ zs, v ≠ .ref D) ∧ (∀ p, V.ref p ∈ zs → H10 p = none) ∧ Acc LRow H' zs (onesF m) j) ⟨Same.updD (Same.refl H10) hD, [], upd_same, List.nodup_nil, fun v hv => (by cases hv), fun v hv => (by cases hv), Acc.nil⟩ (fun j H' _ hP => SqT.of (hP.1 _ _ hp10)) (fun j y H11 hyj hP => ?_) (fun H11 hP => ?_)
        · obtain ⟨sm11, zs, hD11, hnd, hnD, hfz, hz11⟩ := hP
          have hj : j < (onesF m).length := by
            have := (List.getElem?_eq_some_iff.mp hyj).1
            omega
          have go1 : (onesF m)[j]? = some (onesF m)[j] := List.getElem?_eq_getElem hj
          obtain ⟨pw, ws, rfl, hpw, hwl, hwa⟩ := sqv_acc (RowV.kt (ha10.2 j y _ hyj go1) (Kt.of sm11))
          walk_at "go"
          refine ⟨rfl, ?_⟩
          walk_at "go"
          refine ⟨_, _, rfl, .inr (SqT.of hpw), fun L12 hL12 => ?_⟩
          have s12 := same_upd (o := HO.lst ws) hL12
          have h12 : (upd H11 L12 (.lst ws)) L12 = some (.lst ws) := upd_same
          generalize upd H11 L12 (.lst ws) = H12 at s12 h12 ⊢
          have hD12 := s12 _ _ hD11
          have nLD : V.ref L12 ≠ V.ref D := fun z => by
            cases z
            rw [hD11] at hL12
            cases hL12
          refine ⟨zs, hD12, small1000 (by rw [hz11.1]; omega), Same.updD (sm11.trans s12) hD, _, upd_same, ?_, fun v hv => ?_, fun p' hp' => ?_, ?_⟩
          · rw [List.nodup_append]
            refine ⟨hnd, List.nodup_cons.mpr ⟨fun z => (by cases z), List.nodup_nil⟩, fun v hv v' hv' e => ?_⟩
            rw [List.mem_singleton.mp hv'] at e
            subst e
            obtain ⟨a, ha⟩ := List.getElem?_of_mem hv
            have hal := (List.getElem?_eq_some_iff.mp ha).1
            rw [hz11.1] at hal
            obtain ⟨pz, xz, ez, hpz, _⟩ := hz11.2 a _ _ ha (List.getElem?_eq_getElem (show a < (onesF m).length by omega))
            cases ez
            rw [hpz] at hL12
            cases hL12
          · rcases List.mem_append.mp hv with h | h
            · exact hnD v h
            · rw [List.mem_singleton.mp h]
              exact nLD
          · rcases List.mem_append.mp hp' with h | h
            · exact hfz p' h
            · cases List.mem_singleton.mp h
              exact sm11.free hL12
          · have mono : ∀ v r, v ∈ zs → LRow H11 v r → LRow (upd H12 D (.lst (zs ++ [V.ref L12]))) v r := fun v r hv h => (h.sm s12).upd hD12 (hnD v hv)
            have hz12 : Acc LRow (upd H12 D (.lst (zs ++ [V.ref L12]))) zs (onesF m) j := ⟨hz11.1, fun a v r e1 e2 => mono v r (List.mem_of_getElem? e1) (hz11.2 a v r e1 e2)⟩
            refine hz12.snoc go1 (LRow.upd ⟨L12, ws, rfl, h12, ?_⟩ hD12 nLD)
            exact hwa.mono fun x a h => NumV.kt h (Kt.of s12)
        · obtain ⟨sm11, zs, hD11, hnd, hnD, hfz, hz11⟩ := hP
          have hxl10 : x10.length = m := by omega
          rw [hxl10] at hz11
          have hzl : zs.length = m := hz11.1
          have gz : zs[ni]? = some (zs[ni]'(by omega)) := List.getElem?_eq_getElem _
          obtain ⟨pi, xi, epi, hpi, hai⟩ := hz11.2 ni _ _ gz (ones_get hni)
          rw [epi] at gz
          have hxil : xi.length = m := by rw [hai.1, List.length_map, List.length_range]
          walk_at "go"
          refine w_ixL hD11 (atI_nat gz) ?_
          walk_at "go"
          refine w_setL hpi (by rw [hxil]; exact ixN_nat hnj) ?_
          have npD : pi ≠ D := fun e => hnD _ (List.mem_of_getElem? gz) (by rw [e])
          have hD12 : (upd H11 pi (.lst (xi.set nj xv))) D = some (.lst zs) := by rw [upd_ne (Ne.symm npD)]; exact hD11
          have k10 : Kt H9 H11 := Kt.of (s10.trans sm11)
          have hxa12 : NumV (upd H11 pi (.lst (xi.set nj xv))) xv xa := (hxa.kt k10).kt (Kt.updL hpi)
          have hfr10 := hfz pi (List.mem_of_getElem? gz)
          have s12 : Same H10 (upd H11 pi (.lst (xi.set nj xv))) := Same.updD sm11 hfr10
          have hacc12 : Acc LRow (upd H11 pi (.lst (xi.set nj xv))) zs ((onesF m).set ni (((List.range m).map fun c => ((if ni = c then 1 else 0 : Int), (1 : Int))).set nj xa)) m := by
            refine ⟨hzl, fun a v r e1 e2 => ?_⟩
            rw [List.getElem?_set] at e2
            by_cases ea : ni = a
            · subst ea
              rw [if_pos rfl, if_pos (by rw [hol]; exact hni)] at e2
              cases Option.some.inj e2
              cases Option.some.inj (gz.symm.trans e1)
              refine ⟨pi, xi.set nj xv, rfl, upd_same, ?_⟩
              refine ⟨by rw [List.length_set, List.length_set]; exact hai.1, fun c y d f1 f2 => ?_⟩
              rw [List.getElem?_set] at f1 f2
              by_cases ec : nj = c
              · rw [if_pos ec] at f1 f2
                split at f1
                · cases Option.some.inj f1
                  split at f2
                  · cases Option.some.inj f2
                    exact hxa12
                  · cases f2
                · cases f1
              · rw [if_neg ec] at f1 f2
                exact (hai.2 c y d f1 f2).kt (Kt.updL hpi)
            · rw [if_neg ea] at e2
              refine (hz11.2 a v r e1 e2).upd hpi fun e => ?_
              have h1 := (List.getElem?_eq_some_iff.mp e1)
              have h2 := (List.getElem?_eq_some_iff.mp gz)
              exact ea ((List.getElem_inj hnd).mp (h2.2.trans (e.symm.trans h1.2.symm)))
          generalize upd H11 pi (.lst (xi.set nj xv)) = H12 at hD12 hxa12 s12 hacc12 ⊢
          have hPl : ((onesF m).set ni (((List.range m).map fun c => ((if ni = c then 1 else 0 : Int), (1 : Int))).set nj xa)).length = m := by rw [List.length_set]; exact hol
          have hPz : ∀ r ∈ (onesF m).set ni (((List.range m).map fun c => ((if ni = c then 1 else 0 : Int), (1 : Int))).set nj xa), RZ g 1 2 m r := fun r hr => by
            have ones : ∀ r ∈ onesF m, RZ g 1 2 m r := fun r hr => ⟨(rz_ones hg r hr).1, fun a ha => ((rz_ones hg r hr).2 a ha).mono (by decide)⟩
            rcases List.mem_or_eq_of_mem_set hr with h | h
            · exact ones r h
            · subst h
              refine ⟨by rw [List.length_set, List.length_map, List.length_range], fun a ha => ?_⟩
              rcases List.mem_or_eq_of_mem_set ha with h | h
              · exact ((rz_onesrow hg (m := m) (k := ni)).2 a h).mono (by decide)
              · rw [h]
                exact hxz
          have hPe := er_step (V := W) hni hnj hij xa
          generalize (onesF m).set ni (((List.range m).map fun c => ((if ni = c then 1 else 0 : Int), (1 : Int))).set nj xa) = P at hacc12 hPl hPz hPe
          walk_at "go"
          refine ⟨D, rfl, ⟨_, SqL.of hD12⟩, fun D2 hD2 => ?_⟩
          refine lc_list (xs := zs) (fun j H' => Same H12 H' ∧ ∃ ws, H' D2 = some (.lst ws) ∧ Acc RowV H' ws P j) ⟨Same.updD (Same.refl H12) hD2, [], upd_same, Acc.nil⟩ (fun j H' _ hP => SqL.of (hP.1 _ _ hD12)) (fun j y H13 hyj hP => ?_) (fun H13 hP => ?_)
          · obtain ⟨sm13, ws, hD13, hw13⟩ := hP
            have hj : j < P.length := by
              have := (List.getElem?_eq_some_iff.mp hyj).1
              omega
            have gP : P[j]? = some P[j] := List.getElem?_eq_getElem hj
            obtain ⟨pw, vs, rfl, hpw, hva⟩ := (hacc12.2 j y _ hyj gP).sm sm13
            walk_at "go"
            refine ⟨rfl, ?_⟩
            walk_at "go"
            refine ⟨_, _, rfl, .inl ⟨SqL.of hpw, fun l14 hl14 => ?_⟩⟩
            have s14 := same_upd (o := HO.tup vs) hl14
            have hD14 := s14 _ _ hD13
            have kt : Kt H13 (upd (upd H13 l14 (.tup vs)) D2 (.lst (ws ++ [V.ref l14]))) := (Kt.of s14).trans (Kt.updL hD14)
            refine ⟨ws, hD14, small1000 (by rw [hw13.1]; omega), Same.updD (sm13.trans s14) hD2, _, upd_same, ?_⟩
            exact (hw13.mono fun x a h => RowV.kt h kt).snoc gP (RowV.kt (acc_sqv upd_same (hva.mono fun x a h => NumV.kt h (Kt.of s14))) (Kt.updL hD14))
          · obtain ⟨sm13, ws, hD13, hw13⟩ := hP
            rw [hzl] at hw13
            walk_at "go"
            refine ⟨_, _, rfl, .inl ⟨SqL.of hD13, fun l14 hl14 => ?_⟩⟩
            have s14 := same_upd (o := HO.tup ws) hl14
            have h14 : (upd H13 l14 (.tup ws)) l14 = some (.tup ws) := upd_same
            generalize upd H13 l14 (.tup ws) = H14 at s14 h14 ⊢
            have hPv : TabV H14 (.ref l14) P := (hw13.mono fun x a h => RowV.kt h (Kt.of s14)).sq hPl.symm h14
            have s914 := s10.trans (s12.trans (sm13.trans s14))
            have hT14 : TabV H14 tv T := TabV.kt hT3 (kt39.trans (Kt.of s914))
            have hdP : Fr.dC (P.map (er W)) (List.range m) ≠ 0 := by
              rw [hPe, det_elem hni hnj hij]
              exact W.ne
            have hmm : m * m ≤ 25 := Nat.mul_le_mul hm hm
            have hbig : m * (161280 * 100 ^ i * 2) ≤ 5 * (161280000000 * 2) := Nat.mul_le_mul hm (Nat.mul_le_mul_right _ hMi)
            have hbig2 : m * (2 * (m * (161280 * 100 ^ i * 2))) ≤ 5 * (2 * (5 * (161280000000 * 2))) := Nat.mul_le_mul hm (Nat.mul_le_mul_left _ hbig)
            walk_at "go"
            refine ⟨g, .ref l14, tv, P, T, m, m, 1, 2520, 2, 161280 * 100 ^ i, 100, F', R, W, rfl, hg, hPv, hT14, hPz, by omega, hfT.len, hm1, by omega, by omega, hfT.row, by decide, by decide, by decide, by decide, by omega, ?_, by decide, by decide, fun v15 H15 T1 s15 h15 hT1l hT1z hT1e => ?_⟩
            · have : (m + 1) * (161280 * 100 ^ i * 2) ≤ 6 * (161280000000 * 2) := Nat.mul_le_mul (by omega) (Nat.mul_le_mul_right _ hMi)
              omega
            have hPv15 := TabV.kt hPv (Kt.of s15)
            walk_at "go"
            refine ⟨.ref l14, P, m, rfl, hPv15, by omega, by omega, fun r hr => (hPz r hr).1, by omega, fun v16 H16 s16 h16 => ?_⟩
            walk_at "go"
            have hQz : ∀ r ∈ turnF m P, RZ g 1 2 m r := fun r hr => by
              unfold turnF at hr
              obtain ⟨c, hc, rfl⟩ := List.mem_map.mp hr
              refine ⟨by rw [List.length_map]; exact hPl, fun a ha => ?_⟩
              obtain ⟨row, hrow, rfl⟩ := List.mem_map.mp ha
              have hrz := hPz row hrow
              have hcl : c < row.length := by rw [hrz.1]; exact List.mem_range.mp hc
              rw [List.getD_eq_getElem?_getD, List.getElem?_eq_getElem hcl]
              exact hrz.2 _ (List.getElem_mem hcl)
            refine ⟨g, v15, v16, T1, turnF m P, m, m, 2520 * 1, 1, m * (161280 * 100 ^ i * 2), 2, 100, F', R, W, rfl, hg, TabV.kt h15 (Kt.of s16), h16, hT1z, by omega, by unfold turnF; rw [List.length_map, List.length_range], hm1, by omega, by omega, hQz, by decide, by decide, by decide, by omega, by decide, ?_, by decide, by decide, fun v17 H17 T2 s17 h17 hT2l hT2z hT2e => ?_⟩
            · have : (m + 1) * (2 * (m * (161280 * 100 ^ i * 2))) ≤ 6 * (2 * (5 * (161280000000 * 2))) := Nat.mul_le_mul (by omega) (Nat.mul_le_mul_left _ hbig)
              omega
            walk_at "go"
            have s917 := s914.trans (s15.trans (s16.trans s17))
            refine ⟨v17, T2, ⟨_, _, _, _, _, _, _, rfl⟩, m09.trans (Mv.same s917), hb9.same s917, h17, ?_⟩
            refine hfT.step hg hPl hdP (fun r hr => (hPz r hr).1) hT1e hT2e (by omega) fun r hr => ⟨(hT2z r hr).1, fun a ha => ?_⟩
            have tz := (hT2z r hr).2 a ha
            rw [show ((1 : Int) * (2520 * 1)) = 2520 by decide] at tz
            refine tz.mono ?_
            have e1 : m * (2 * (m * (161280 * 100 ^ i * 2))) = m * m * 4 * (161280 * 100 ^ i) := by
              generalize 161280 * 100 ^ i = X
              rw [Nat.mul_left_comm 2 m, ← Nat.mul_assoc m m, Nat.mul_comm X 2, ← Nat.mul_assoc 2 2, ← Nat.mul_assoc]
            rw [e1, Nat.pow_succ]
            have : m * m * 4 * (161280 * 100 ^ i) ≤ 100 * (161280 * 100 ^ i) := Nat.mul_le_mul_right _ (by omega)
            omega
      · obtain ⟨tv, T, ⟨y4, y5, y6, y7, y8, y9, y10, rfl⟩, mv, hbi, hT, hfT⟩ := hP
        walk_at "go"
        exact q _ _ T hT (frm_mono hfT (pow100 (by omega))) mv hbi
    · walk_at "go"
      refine ⟨by decide, by decide, ?_⟩
      refine for_range (fun i σ H' => H' = H ∧ ∃ y3 y4 y5 y6 y7 y8 y9 y10, σ = [some (.ref b), some (.int g), some (.ref p), y3, y4, y5, y6, y7, y8, y9, y10]) ⟨rfl, _, _, _, _, _, _, _, _, rfl⟩ (fun i σ H' hi hP => absurd hi (Nat.not_lt_zero _)) (fun σ H' hP => ?_)
      obtain ⟨rfl, y3, y4, y5, y6, y7, y8, y9, y10, rfl⟩ := hP
      walk_at "go"
      exact q _ _ t hx0 (frm_mono hf (by decide)) (Mv.refl b _) hb
theorem ok_mirror {f : Addr} {fd : FuncData} (F : FnP K "mirror" s_mirror f fd)
    {f_want_rows : Addr} {fd_want_rows : FuncData} (F_want_rows : FnP K "want_rows" s_want_rows f_want_rows fd_want_rows) (b_want_rows : Binds K fd_want_rows ["form", "things"] []) (g_want_rows : mg "want_rows" = some (.ref f_want_rows)) (G_want_rows : FnOk P w K mg base CX0 4 f_want_rows fd_want_rows ["form", "things"] (sp_want_rows K))
    {f_want_worths : Addr} {fd_want_worths : FuncData} (F_want_worths : FnP K "want_worths" s_want_worths f_want_worths fd_want_worths) (b_want_worths : Binds K fd_want_worths ["form", "rows"] []) (g_want_worths : mg "want_worths" = some (.ref f_want_worths)) (G_want_worths : FnOk P w K mg base CX0 7 f_want_worths fd_want_worths ["form", "rows"] (sp_want_worths K))
    {f_mirrors_table : Addr} {fd_mirrors_table : FuncData} (F_mirrors_table : FnP K "mirrors_table" s_mirrors_table f_mirrors_table fd_mirrors_table) (b_mirrors_table : Binds K fd_mirrors_table ["form", "rows"] []) (g_mirrors_table : mg "mirrors_table" = some (.ref f_mirrors_table)) (G_mirrors_table : FnOk P w K mg base CX0 5 f_mirrors_table fd_mirrors_table ["form", "rows"] (sp_mirrors_table K))
    {f_Keeper___init__ : Addr} {fd_Keeper___init__ : FuncData} (F_Keeper___init__ : FunD K "__init__" "Keeper.__init__" (defArgs s_Keeper___init__) (defBody s_Keeper___init__) (defScope s_Keeper___init__) [] [] f_Keeper___init__ fd_Keeper___init__) (M_Keeper : Mk K (He.ga K "Keeper") f_Keeper___init__) (gc_Keeper : mg "Keeper" = some (.ref (He.ga K "Keeper"))) (b_Keeper___init__ : Binds K fd_Keeper___init__ ["self", "form", "table"] []) (G_Keeper___init__ : FnOk P w K mg base CX0 5 f_Keeper___init__ fd_Keeper___init__ ["self", "form", "table"] (sp_Keeper___init__ K)) :
    FnOk P w K mg base CX0 8 f fd ["form", "row"] (sp_mirror K) := by
  refine F.ok sc_mirror (fun vs H Q E h => ?_) (fun cdv A outer s H vs Q E hr h => ?_)
  · obtain ⟨g, f, tv, y, t, r, m, Dt, Dr, Mt, Mr, s, a, F', R, W, rfl, hg, hf, ht, hy, htl, hm1, hm, hsy, htz, hrz, hDt, hDr, bDt, bMt, bDr, bMr, hs4, hs, ha4, ha, hw, q⟩ := h
    rfl
  · obtain ⟨g, f, tv, y, t, r, m, Dt, Dr, Mt, Mr, s, a, F', R, W, rfl, hg, hf, ht, hy, htl, hm1, hm, hsy, htz, hrz, hDt, hDr, bDt, bMt, bDr, bMr, hs4, hs, ha4, ha, hw, q⟩ := h
    refine ⟨_, PSs.nox (pss_cons (ps_expr (pe_call G_want_rows (hr.mono (by decide)) (by rfl) g_want_rows F_want_rows.kp b_want_rows .nil pass0 (pa_cons (pv 0) (pa_cons (pe_lst (pa_cons (pv 1) pa_nil)) pa_nil))))
        (pss_cons (ps_expr (pe_call G_want_worths hr (by rfl) g_want_worths F_want_worths.kp b_want_worths .nil pass0 (pa_cons (pv 0) (pa_cons (pe_lst (pa_cons (pv 1) pa_nil)) pa_nil))))
        (pss_one (ps_ret (pe_make M_Keeper G_Keeper___init__ (hr.mono (by decide)) (by rfl) gc_Keeper b_Keeper___init__ .nil pass0 (pa_cons (pv 0) (pa_cons (pe_call G_mirrors_table (hr.mono (by decide)) (by rfl) g_mirrors_table F_mirrors_table.kp b_mirrors_table .nil pass0 (pa_cons (pv 0) (pa_cons (pe_lst (pa_cons (pv 1) pa_nil)) pa_nil))) pa_nil))))))), ?_⟩
    have hB : (t.map (er W)).length = m := by rw [List.length_map]; exact htl
    have htn := hrz.tn hg (k := a + 1) (by omega) hDr (pw_lt bDr (by omega)) (pw_lt bMr (by omega))
    have hm3 : m ≤ 2 ^ 3 := Nat.le_trans hm (by decide)
    walk_at "go"
    refine w_new (by simp) fun L1 H1 hL1 s1 h1 => ?_
    walk_at "go"
    refine ⟨f, tv, g, L1, [y], t, [r], m, a + 1, rfl, hf.sm s1, TabV.kt ht (Kt.of s1), htl, by omega, h1, acc_one (RowV.kt hy (Kt.of s1)), fun q hq => (by rw [List.mem_singleton.mp hq]; exact ⟨hrz.1, htn⟩), fun H2 s2 => ?_⟩
    walk_at "go"
    refine w_new (by simp) fun L3 H3 hL3 s3 h3 => ?_
    have s13 := s1.trans (s2.trans s3)
    walk_at "go"
    refine ⟨g, f, tv, L3, [y], t, [r], m, Dt, Dr, Mt, Mr, 790, F', R, W, rfl, hg, hf.sm s13, TabV.kt ht (Kt.of s13), h3, acc_one (RowV.kt hy (Kt.of s13)), htl, hm1, hm, htz, fun q hq => (by rw [List.mem_singleton.mp hq]; exact ⟨hrz, hw⟩), hDt, hDr, pw_lt bDt (by omega), pw_lt bDr (by omega), pw_lt (pw_abs bDr bDt) (by omega), pw_lt bMt (by omega), pw_lt bMr (by omega), pw_lt (pw_mul hm3 (pw_mul bMr bMt)) (by omega), by decide, by decide, fun H4 s4 => ?_⟩
    have s14 := s13.trans s4
    walk_at "go"
    refine w_new (by simp) fun L5 H5 hL5 s5 h5 => ?_
    have s15 := s14.trans s5
    walk_at "go"
    refine ⟨g, f, tv, L5, [y], t, [r], m, Dt, Mt, s, a, a + 1, F', R, W, rfl, hg, hf.sm s15, TabV.kt ht (Kt.of s15), htl, hm1, hm, hsy, htz, hDt, bDt, bMt, hs4, hs, h5, acc_one (RowV.kt hy (Kt.of s15)), fun q hq => (by rw [List.mem_singleton.mp hq]; exact PlR.of hg hrz hDr bDr bMr ha4 hw), by omega, by omega, by show 4 + 1 * (8 + 2 * a + s) ≤ 4900; omega, by omega, fun v6 T D H6 s6 h6 htab hD0 hDb hTz => ?_⟩
    have e1 : 4 + [r].length * (8 + 2 * a + s) = 12 + 2 * a + s := by show 4 + 1 * (8 + 2 * a + s) = _; omega
    rw [e1] at hDb hTz
    have htab' : TabL W m (mirF W (t.map (er W)) m (er W r)) T := htab
    have s16 := s15.trans s6
    have hok : KpOK W t T m := ⟨Dt, D, Mt, _, s, 12 + 2 * a + s, htl, hm1, hm, hsy, htz, htab.1, hTz, hDt, hD0, bDt, bMt, hDb, Nat.le_refl _, hs4, hs, by omega, by omega, htab'.keeps hB (mir_keeps W hB hsy hw)⟩
    walk_at "go"
    refine keeper_mk hg (hf.sm s16) (TabV.kt ht (Kt.of s16)) h6 hok fun x H7 s7 h7 hx => ?_
    exact q x v6 T D H7 (s16.trans s7) h7 (TabV.kt h6 (Kt.of s7)) htab' hD0 hDb hTz hok
theorem ok__law_mirror {f : Addr} {fd : FuncData} (F : FnP K "_law_mirror" s__law_mirror f fd)
    {f__law_over : Addr} {fd__law_over : FuncData} (F__law_over : FnP K "_law_over" s__law_over f__law_over fd__law_over) (b__law_over : Binds K fd__law_over ["_law_g", "_law_x", "_law_y"] []) (g__law_over : mg "_law_over" = some (.ref f__law_over)) (G__law_over : FnOk P w K mg base CX0 3 f__law_over fd__law_over ["_law_g", "_law_x", "_law_y"] (sp__law_over K))
    {f__law_ones : Addr} {fd__law_ones : FuncData} (F__law_ones : FnP K "_law_ones" s__law_ones f__law_ones fd__law_ones) (b__law_ones : Binds K fd__law_ones ["_law_many"] []) (g__law_ones : mg "_law_ones" = some (.ref f__law_ones)) (G__law_ones : FnOk P w K mg base CX0 1 f__law_ones fd__law_ones ["_law_many"] (sp__law_ones K))
    {f__law_low : Addr} {fd__law_low : FuncData} (F__law_low : FnP K "_law_low" s__law_low f__law_low fd__law_low) (b__law_low : Binds K fd__law_low ["_law_g", "_law_up", "_law_down"] []) (g__law_low : mg "_law_low" = some (.ref f__law_low)) (G__law_low : FnOk P w K mg base CX0 2 f__law_low fd__law_low ["_law_g", "_law_up", "_law_down"] (sp__law_low K))
    {f__law_worth : Addr} {fd__law_worth : FuncData} (F__law_worth : FnP K "_law_worth" s__law_worth f__law_worth fd__law_worth) (b__law_worth : Binds K fd__law_worth ["_law_g", "_law_table", "_law_row_here"] []) (g__law_worth : mg "_law_worth" = some (.ref f__law_worth)) (G__law_worth : FnOk P w K mg base CX0 7 f__law_worth fd__law_worth ["_law_g", "_law_table", "_law_row_here"] (sp__law_worth K))
    {f__law_added : Addr} {fd__law_added : FuncData} (F__law_added : FnP K "_law_added" s__law_added f__law_added fd__law_added) (b__law_added : Binds K fd__law_added ["_law_g", "_law_row_here", "_law_other"] []) (g__law_added : mg "_law_added" = some (.ref f__law_added)) (G__law_added : FnOk P w K mg base CX0 4 f__law_added fd__law_added ["_law_g", "_law_row_here", "_law_other"] (sp__law_added K))
    {f__law_scaled : Addr} {fd__law_scaled : FuncData} (F__law_scaled : FnP K "_law_scaled" s__law_scaled f__law_scaled fd__law_scaled) (b__law_scaled : Binds K fd__law_scaled ["_law_g", "_law_row_here", "_law_x"] []) (g__law_scaled : mg "_law_scaled" = some (.ref f__law_scaled)) (G__law_scaled : FnOk P w K mg base CX0 4 f__law_scaled fd__law_scaled ["_law_g", "_law_row_here", "_law_x"] (sp__law_scaled K))
    {f__law_times : Addr} {fd__law_times : FuncData} (F__law_times : FnP K "_law_times" s__law_times f__law_times fd__law_times) (b__law_times : Binds K fd__law_times ["_law_g", "_law_x", "_law_y"] []) (g__law_times : mg "_law_times" = some (.ref f__law_times)) (G__law_times : FnOk P w K mg base CX0 3 f__law_times fd__law_times ["_law_g", "_law_x", "_law_y"] (sp__law_times K))
    {f__law_pair : Addr} {fd__law_pair : FuncData} (F__law_pair : FnP K "_law_pair" s__law_pair f__law_pair fd__law_pair) (b__law_pair : Binds K fd__law_pair ["_law_g", "_law_table", "_law_row_here", "_law_other"] []) (g__law_pair : mg "_law_pair" = some (.ref f__law_pair)) (G__law_pair : FnOk P w K mg base CX0 6 f__law_pair fd__law_pair ["_law_g", "_law_table", "_law_row_here", "_law_other"] (sp__law_pair K)) (m_len : mg "len" = none) (m_tuple : mg "tuple" = none) :
    FnOk P w K mg base CX0 8 f fd ["_law_g", "_law_table", "_law_row_here"] (sp__law_mirror K) := by
  refine F.ok sc__law_mirror (fun vs H Q E h => ?_) (fun cdv A outer s H vs Q E hr h => ?_)
  · obtain ⟨g, x, y, t, r, m, Dt, Mt, dt, et, F', R, W, rfl, hg, hx, hy, hm1, hm, htl, ht, hDt0, bDt, bMt, ⟨Dr, Mr, dr, er', htr, hDr0, bDr, bMr, hE⟩, hbw, q⟩ := h
    rfl
  · obtain ⟨g, x, y, t, r, m, Dt, Mt, dt, et, F', R, W, rfl, hg, hx, hy, hm1, hm, htl, ht, hDt0, bDt, bMt, ⟨Dr, Mr, dr, er', htr, hDr0, bDr, bMr, hE⟩, hbw, q⟩ := h
    refine ⟨_, PSs.nox (pss_cons (ps_set (i := 3) sc__law_mirror.nd rfl (.inl rfl) (pe_callB call_len_seq (by rfl) m_len (by decide +kernel) (pa_cons (pv 1) pa_nil)))
        (pss_cons (ps_set (i := 4) sc__law_mirror.nd rfl (.inl rfl) (pe_call G__law_over (hr.mono (by decide)) (by rfl) g__law_over F__law_over.kp b__law_over .nil pass0 (pa_cons (pv 0) (pa_cons (pe_call G__law_low (hr.mono (by decide)) (by rfl) g__law_low F__law_low.kp b__law_low .nil pass0 (pa_cons (pv 0) (pa_cons (pe_un un_neg pe_int) (pa_cons pe_int pa_nil)))) (pa_cons (pe_call G__law_worth hr (by rfl) g__law_worth F__law_worth.kp b__law_worth .nil pass0 (pa_cons (pv 0) (pa_cons (pv 1) (pa_cons (pv 2) pa_nil)))) pa_nil)))))
        (pss_cons (ps_set (i := 5) sc__law_mirror.nd rfl (.inl rfl) (pe_lst pa_nil))
        (pss_cons (ps_for PassesOwn.never rfl (pi_tup (pe_call G__law_ones (hr.mono (by decide)) (by rfl) g__law_ones F__law_ones.kp b__law_ones .nil pass0 (pa_cons (pv 3) pa_nil))) (pg_name (i := 6) sc__law_mirror.nd rfl (.inl rfl)) (pss_one (ps_expr (pe_bm PySem.F.plainAttrs_list PySem.F.slot_list_append PySem.F.type_list_append mt_append (pv 5) (pa_cons (pe_call G__law_added (hr.mono (by decide)) (by rfl) g__law_added F__law_added.kp b__law_added .nil pass0 (pa_cons (pv 0) (pa_cons (pv 6) (pa_cons (pe_call G__law_scaled (hr.mono (by decide)) (by rfl) g__law_scaled F__law_scaled.kp b__law_scaled .nil pass0 (pa_cons (pv 0) (pa_cons (pv 2) (pa_cons (pe_call G__law_times (hr.mono (by decide)) (by rfl) g__law_times F__law_times.kp b__law_times .nil pass0 (pa_cons (pv 0) (pa_cons (pv 4) (pa_cons (pe_call G__law_pair (hr.mono (by decide)) (by rfl) g__law_pair F__law_pair.kp b__law_pair .nil pass0 (pa_cons (pv 0) (pa_cons (pv 1) (pa_cons (pv 6) (pa_cons (pv 2) pa_nil))))) pa_nil)))) pa_nil)))) pa_nil)))) pa_nil)))))
        (pss_one (ps_ret (pe_callTy call_tuple_of (by rfl) m_tuple (by decide +kernel) (pa_cons (pv 5) pa_nil)))))))), ?_⟩
    have ⟨hg0, hg13⟩ := grb hg
    obtain ⟨b1, b2, b3, b4, b5, b6, b7, b8⟩ := mirBd hm bDt bMt bDr bMr
    unfold mirE at hE
    obtain ⟨px, xs, ex, hpx, hlx, _⟩ := sqv_acc hx
    walk_at "go"
    subst ex
    refine ⟨px, xs, rfl, .inr (SqT.of hpx), ?_⟩
    walk_at "go"
    refine ⟨g, -2, 1, rfl, hg0, hg13, by decide, by exact Nat.lt_of_lt_of_le (show (1 : Int).natAbs < 2 ^ 1 by decide) (Nat.pow_le_pow_right (by decide) (by decide)), fun p1 H1 hp1 s1 h1 => ?_⟩
    walk_at "go"
    refine ⟨g, .ref px, y, t, r, m, Dt, Dr, Mt, Mr, 3890, F', R, W, rfl, hg, TabV.kt hx (Kt.of s1), RowV.kt hy (Kt.of s1), htl, hm1, by omega, ht, htr, hDt0, hDr0, pw_lt b7 (by omega), pw_lt bMt (by omega), pw_lt bMr (by omega), pw_lt b1 (by omega), pw_lt b2 (by omega), by decide, by decide, fun v2 H2 w s2 h2 tw ew => ?_⟩
    have hDw0 : Dt * Dr * Dr ≠ 0 := Int.mul_ne_zero (Int.mul_ne_zero hDt0 hDr0) hDr0
    have tm2 := tz_low1 hg (-2) (by decide)
    have tnw := tw.tn hg (k := 3890) (by decide) hDw0 (pw_lt b7 (by omega)) (pw_lt b3 (by omega))
    have hw0 : w.1 ≠ 0 := fun z => hbw (by rw [← ew]; exact (e_zero hg tnw).mpr z)
    obtain ⟨z, hz0, hzb, tpart⟩ := tm2.over hg tw hw0 hDw0
    have hzb' : z.natAbs ≤ 2 ^ (5 + et + 2 * er') := Nat.le_trans hzb (Nat.max_le.mpr ⟨b3, Nat.pow_pos (by decide)⟩)
    have hz1 : (1 * z).natAbs ≤ 2 ^ (5 + et + 2 * er') := by rw [Int.one_mul]; exact hzb'
    have hz10 : 1 * z ≠ 0 := by rw [Int.one_mul]; exact hz0
    have hpM : (-2 : Int).natAbs * (Dt * Dr * Dr).natAbs ≤ 2 ^ (1 + (dt + 2 * dr)) := pw_mul (show (-2 : Int).natAbs ≤ 2 ^ 1 by decide) b7
    have tnp := tpart.tn hg (k := 3890) (by decide) hz10 (pw_lt hz1 (by omega)) (pw_lt hpM (by omega))
    have tm2n := tm2.tn hg (k := 3890) (by decide) (by decide) (pw_lt (i := 1) (by decide) (by decide)) (pw_lt (i := 1) (by decide) (by decide))
    refine ⟨g, .ref p1, v2, _, w, rfl, hg0, hg13, ⟨p1, rfl, s2 _ _ h1⟩, h2, tm2n.be (by decide), tnw.be (by decide), hw0, fun p3 H3 hp3 s3 h3 => ?_⟩
    have epart : W.e (ovrF g (lowF g (-2) 1) w) * bil (t.map (er W)) m (er W r) (er W r) = W.i (-2) := by
      rw [← ew]
      have h5 := W.over hg tm2n tnw hw0
      have h6 := W.low (u := -2) (d := 1) hg (by decide) (fun z => one_fmod (hg.resolve_left z))
      rw [W.i1] at h6
      have h5' : W.e (ovrF g (lowF g (-2) 1) w) * W.e w = W.e (lowF g (-2) 1) := h5
      rw [h5', ← h6]
      grind
    have ehv : W.e (ovrF g (lowF g (-2) 1) w) = hv W (bil (t.map (er W)) m (er W r) (er W r)) := hv_is W hbw epart
    walk_at "go"
    refine w_new (by simp) fun L H4 hL s4 h4 => ?_
    walk_at "go"
    have s04 := s1.trans (s2.trans (s3.trans s4))
    refine ⟨m, by rw [hlx, htl]; rfl, by omega, fun v5 H5 s5 h5 => ?_⟩
    obtain ⟨po, xo, rfl, hpo, hlo, hao⟩ := sqv_acc h5
    have hol : (onesF m).length = m := by unfold onesF; rw [List.length_map, List.length_range]
    have s05 := s04.trans s5
    have hPb : (1 * z * (Dt * 1 * Dr)).natAbs ≤ 2 ^ (5 + et + 2 * er' + (dt + dr)) := pw_abs hz1 b8
    have hP0 : 1 * z * (Dt * 1 * Dr) ≠ 0 := Int.mul_ne_zero hz10 (Int.mul_ne_zero (Int.mul_ne_zero hDt0 (by decide)) hDr0)
    generalize hC : Dr * (1 * z * (Dt * 1 * Dr)) = C
    have hC0 : C ≠ 0 := by
      rw [← hC]
      exact Int.mul_ne_zero hDr0 hP0
    have hCb : C.natAbs ≤ 2 ^ (5 + et + 2 * er' + dt + 2 * dr) := by
      rw [← hC]
      exact pw_le (pw_abs bDr hPb) (by omega)
    have hPM : (-2 : Int).natAbs * (Dt * Dr * Dr).natAbs * (m * (m * (Mt * 1) * Mr)) ≤ 2 ^ (6 + et + er' + dt + 2 * dr) := pw_le (pw_mul hpM b6) (by omega)
    generalize hMM : Mr * ((-2 : Int).natAbs * (Dt * Dr * Dr).natAbs * (m * (m * (Mt * 1) * Mr))) = MM
    have hMMb : MM ≤ 2 ^ (6 + et + 2 * er' + dt + 2 * dr) := by
      rw [← hMM]
      exact pw_le (pw_mul bMr hPM) (by omega)
    have hsumb : 1 * C.natAbs + MM ≤ 2 ^ (5 + et + 2 * er' + dt + 2 * dr + 2) := by
      rw [Nat.one_mul]
      exact pw_le (pw_add (pw_le hCb (show _ ≤ 6 + et + 2 * er' + dt + 2 * dr by omega)) hMMb) (by omega)
    walk_at "go"
    refine ⟨po, rfl, ⟨xo, SqT.of hpo⟩, ?_⟩
    refine for_tup (xs := xo) (fun i σ H' => (∃ y6, σ = [some (.int g), some (.ref px), some y, some (.int (xs.length : Int)), some (.ref p3), some (.ref L), y6]) ∧ Same H H' ∧ Kt H5 H' ∧ ∃ (ys : List V) (T : List (List (Int × Int))), H' L = some (.lst ys) ∧ T.length = i ∧ Acc RowV H' ys T i ∧ (∀ q ∈ T, RZ g C (1 * C.natAbs + MM) m q) ∧ ∀ (a : Nat) (q : List (Int × Int)), T[a]? = some q → er W q = mirF W (t.map (er W)) m (er W r) (unit a)) ?start (fun i σ H' _ hP => ?seq) (fun i vo σ H' hvi hP => ?step) (fun σ H' hP => ?fin)
    case start => exact ⟨⟨_, rfl⟩, s05, fun _ _ h => h, [], [], s5 _ _ h4, rfl, Acc.nil, fun q hq => (by cases hq), fun a q hq => by simp at hq⟩
    case seq => exact SqT.of (hP.2.2.1 _ _ hpo)
    case step =>
      obtain ⟨⟨y6, rfl⟩, sm, kt, ys, T, hL', hTl, hTa, hTz, hTe⟩ := hP
      have hi : i < m := by
        have := (List.getElem?_eq_some_iff.mp hvi).1
        omega
      have hone := RowV.kt (hao.2 i vo _ hvi (ones_get hi)) kt
      have rz1 := rz_onesrow (m := m) (k := i) hg
      have hLH : H L = none := (s1.trans (s2.trans s3)).free hL
      walk_at "go"
      refine ⟨.inl ⟨rfl, _, SqL.of hL'⟩, ?_⟩
      walk_at "go"
      refine ⟨g, .ref px, vo, y, t, _, r, m, Dt, 1, Dr, Mt, 1, Mr, 3890, F', R, W, rfl, hg, TabV.kt hx (Kt.of sm), hone, RowV.kt hy (Kt.of sm), htl, hm1, by omega, ht, rz1, htr, hDt0, by decide, hDr0, pw_lt b8 (by omega), pw_lt bMt (by omega), pw_lt (i := 0) (by decide) (by decide), pw_lt bMr (by omega), pw_lt b4 (by omega), pw_lt b5 (by omega), by decide, by decide, fun v6 H6 d6 s6 h6 td6 ed6 => ?_⟩
      have tn6 := td6.tn hg (k := 3890) (by decide) (Int.mul_ne_zero (Int.mul_ne_zero hDt0 (by decide)) hDr0) (pw_lt b8 (by omega)) (pw_lt b6 (by omega))
      have hp3' : H6 p3 = some (.tup [.int (ovrF g (lowF g (-2) 1) w).1, .int (ovrF g (lowF g (-2) 1) w).2]) := s6 _ _ (kt _ _ (s5 _ _ (s4 _ _ h3)))
      refine ⟨g, .ref p3, v6, _, d6, rfl, hg0, hg13, ⟨p3, rfl, hp3'⟩, h6, tnp.be (by decide), tn6.be (by decide), fun p7 H7 hp7 s7 h7 => ?_⟩
      have tpr := tpart.times hg td6
      have tn7 := tpr.tn hg (k := 3890) (by decide) hP0 (pw_lt hPb (by omega)) (pw_lt hPM (by omega))
      refine ⟨g, y, .ref p7, r, _, rfl, hg0, hg13, RowV.kt hy (Kt.of (sm.trans (s6.trans s7))), ⟨p7, rfl, h7⟩, by rw [htr.1]; omega, htr.be hg (k := 3890) (by decide) (by decide) hDr0 (pw_lt bDr (by omega)) (pw_lt bMr (by omega)), tn7.be (by decide), fun v8 H8 s8 h8 => ?_⟩
      have rz8 := rz_times hg htr tpr
      rw [hC, hMM] at rz8
      have rz1' : RZ g C (1 * C.natAbs) m ((List.range m).map fun j => ((if i = j then 1 else 0 : Int), (1 : Int))) := ⟨rz1.1, fun a ha => by
        have := (rz1.2 a ha).wide C
        rw [Int.one_mul] at this
        exact this⟩
      have s68 := s6.trans (s7.trans s8)
      have hC1 : 1 * C.natAbs ≤ 2 ^ (5 + et + 2 * er' + dt + 2 * dr) := by rw [Nat.one_mul]; exact hCb
      refine ⟨g, vo, v8, _, _, rfl, hg0, hg13, RowV.kt hone (Kt.of s68), h8, by rw [rz1'.1, rz8.1], by rw [rz1'.1]; omega, rz1'.be hg (k := 3890) (by decide) (by decide) hC0 (pw_lt hCb (by omega)) (pw_lt hC1 (by omega)), rz8.be hg (k := 3890) (by decide) (by decide) hC0 (pw_lt hCb (by omega)) (pw_lt hMMb (by omega)), fun v9 H9 s9 h9 => ?_⟩
      have s69 := s68.trans s9
      walk_at "go"
      refine w_append (s69 _ _ hL') (by rw [hTa.1]; omega) ?_
      have kt9 : Kt H' (upd H9 L (.lst (ys ++ [v9]))) := (Kt.of s69).trans (Kt.updL (s69 _ _ hL'))
      refine ⟨⟨_, rfl⟩, Same.updD (sm.trans s69) hLH, kt.trans kt9, _, T ++ [_], upd_same, by rw [List.length_append, hTl]; rfl, acc_app (hTa.mono fun x a h => RowV.kt h kt9) hTl (RowV.kt h9 (Kt.updL (s69 _ _ hL'))), fun q hq => ?_, fun a q hq => ?_⟩
      · rcases List.mem_append.mp hq with h | h
        · exact hTz q h
        · rw [List.mem_singleton.mp h]
          exact rz_plus hg rz1' rz8
      · by_cases ha : a < T.length
        · rw [List.getElem?_append_left ha] at hq
          exact hTe a q hq
        · rw [List.getElem?_append_right (by omega)] at hq
          have ha2 : a = i := by
            have := (List.getElem?_eq_some_iff.mp hq).1
            simp at this
            omega
          subst ha2
          rw [hTl, Nat.sub_self] at hq
          cases Option.some.inj hq
          rw [er_plus hg rz1' rz8, er_times hg htr tpr, er_onesrow hi]
          funext j
          have e7 := W.times hg tnp tn6
          unfold mirF
          rw [e7, ed6, er_onesrow hi, ehv]
    case fin =>
      obtain ⟨⟨y6, rfl⟩, sm, kt, ys, T, hL', hTl, hTa, hTz, hTe⟩ := hP
      walk_at "go"
      refine ⟨_, _, rfl, .inl ⟨SqL.of hL', fun l hl => ?_⟩⟩
      have s9 := same_upd (o := HO.tup ys) hl
      exact q _ _ T (sm.trans s9) ((hTa.mono fun x a h => RowV.kt h (Kt.of s9)).sq hTl.symm upd_same) ⟨by omega, fun q' hq' => ⟨(hTz q' hq').1, fun a ha => ((hTz q' hq').2 a ha).1⟩, fun i hi => (getD_map (List.getElem?_eq_getElem (by omega))).trans (hTe i _ (List.getElem?_eq_getElem (by omega)))⟩
theorem ok__law_form {f : Addr} {fd : FuncData} (F : FnP K "_law_form" s__law_form f fd)
    {f__law_take : Addr} {fd__law_take : FuncData} (F__law_take : FnP K "_law_take" s__law_take f__law_take fd__law_take) (b__law_take : Binds K fd__law_take ["_law_bag_here", "_law_many"] []) (g__law_take : mg "_law_take" = some (.ref f__law_take)) (G__law_take : FnOk P w K mg base CX0 1 f__law_take fd__law_take ["_law_bag_here", "_law_many"] (sp__law_take K))
    {f__law_minus : Addr} {fd__law_minus : FuncData} (F__law_minus : FnP K "_law_minus" s__law_minus f__law_minus fd__law_minus) (b__law_minus : Binds K fd__law_minus ["_law_g", "_law_x"] []) (g__law_minus : mg "_law_minus" = some (.ref f__law_minus)) (G__law_minus : FnOk P w K mg base CX0 3 f__law_minus fd__law_minus ["_law_g", "_law_x"] (sp__law_minus K))
    {f__law_changed : Addr} {fd__law_changed : FuncData} (F__law_changed : FnP K "_law_changed" s__law_changed f__law_changed fd__law_changed) (b__law_changed : Binds K fd__law_changed ["_law_bag_here", "_law_g", "_law_table"] []) (g__law_changed : mg "_law_changed" = some (.ref f__law_changed)) (G__law_changed : FnOk P w K mg base CX0 7 f__law_changed fd__law_changed ["_law_bag_here", "_law_g", "_law_table"] (sp__law_changed K))
    {f__law_other_than_nought : Addr} {fd__law_other_than_nought : FuncData} (F__law_other_than_nought : FnP K "_law_other_than_nought" s__law_other_than_nought f__law_other_than_nought fd__law_other_than_nought) (b__law_other_than_nought : Binds K fd__law_other_than_nought ["_law_bag_here", "_law_g"] []) (g__law_other_than_nought : mg "_law_other_than_nought" = some (.ref f__law_other_than_nought)) (G__law_other_than_nought : FnOk P w K mg base CX0 4 f__law_other_than_nought fd__law_other_than_nought ["_law_bag_here", "_law_g"] (sp__law_other_than_nought K)) (m_tuple : mg "tuple" = none) (m_range : mg "range" = none) :
    FnOk P w K mg base CX0 8 f fd ["_law_bag_here", "_law_g", "_law_many"] (sp__law_form K) := by
  refine F.ok sc__law_form (fun vs H Q E h => ?_) (fun cdv A outer s H vs Q E hr h => ?_)
  · obtain ⟨b, g, m, F', R, W, rfl, hgr, hb, hm1, hm, q⟩ := h
    rfl
  · obtain ⟨b, g, m, F', R, W, rfl, hgr, hb, hm1, hm, q⟩ := h
    refine ⟨_, PSs.nox (pss_cons (ps_set (i := 3) sc__law_form.nd rfl (.inl rfl) (pe_call G__law_take (hr.mono (by decide)) (by rfl) g__law_take F__law_take.kp b__law_take .nil pass0 (pa_cons (pv 0) (pa_cons pe_int pa_nil))))
        (pss_cons (ps_set (i := 4) sc__law_form.nd rfl (.inr rfl) (pe_call G__law_minus (hr.mono (by decide)) (by rfl) g__law_minus F__law_minus.kp b__law_minus .nil pass0 (pa_cons (pv 1) (pa_cons (pe_tup (pa_cons pe_int (pa_cons pe_int pa_nil))) pa_nil))))
        (pss_cons (ps_set (i := 5) sc__law_form.nd rfl (.inr rfl) (pe_op op_rep (pe_lst (pa_cons (pe_tup (pa_cons pe_int (pa_cons pe_int pa_nil))) pa_nil)) (pv 2)))
        (pss_cons (ps_if (pt_cmpR op_eq (pv 3) pe_int (nomark _)) (pss_one (ps_set (i := 5) sc__law_form.nd rfl (.inr rfl) (pe_lc (own := [("_law_k", 7)]) (g := gName 7) (tt := tYes) (by rfl) sc__law_form.nd (pi_range1 (by rfl) m_range (pa_cons (pv 2) pa_nil)) (blkOk_by (own := [("_law_k", 7)]) (N := ["_law_bag_here", "_law_g", "_law_many", "_law_way", "_law_lack", "_law_row_here", "_law_table", "_law_k", "_law_i", "_law_j"]) (sc := defScope s__law_form) (by decide +kernel)) (fun _ _ _ _ _ => (pg_name (i := 7) sc__law_form.nd rfl (.inl rfl))) (fun _ _ _ _ _ => pts_nil) (fun _ _ _ _ _ => (pe_ix (r := rIxL K) ix_list (pe_lst (pa_cons (pe_tup (pa_cons pe_int (pa_cons pe_int pa_nil))) (pa_cons (pv 4) pa_nil))) (pe_op op_modN (pv 7) pe_int) (fun _ _ => rfl)))))) (pss_one (ps_if (pt_cmpR op_gt (pv 3) pe_int (nomark _)) (pss_one (ps_set (i := 5) sc__law_form.nd rfl (.inr rfl) (pe_lc (own := [("_law_k", 7)]) (g := gName 7) (tt := tYes) (by rfl) sc__law_form.nd (pi_range1 (by rfl) m_range (pa_cons (pv 2) pa_nil)) (blkOk_by (own := [("_law_k", 7)]) (N := ["_law_bag_here", "_law_g", "_law_many", "_law_way", "_law_lack", "_law_row_here", "_law_table", "_law_k", "_law_i", "_law_j"]) (sc := defScope s__law_form) (by decide +kernel)) (fun _ _ _ _ _ => (pg_name (i := 7) sc__law_form.nd rfl (.inl rfl))) (fun _ _ _ _ _ => pts_nil) (fun _ _ _ _ _ => (pe_call G__law_other_than_nought (hr.mono (by decide)) (by rfl) g__law_other_than_nought F__law_other_than_nought.kp b__law_other_than_nought .nil pass0 (pa_cons (pv 0) (pa_cons (pv 1) pa_nil))))))) pss_nil)))
        (pss_cons (ps_set (i := 6) sc__law_form.nd rfl (.inl rfl) (pe_callTy call_tuple_of (by rfl) m_tuple (by decide +kernel) (pa_cons (pe_lc (own := [("_law_i", 8)]) (g := gName 8) (tt := tYes) (by rfl) sc__law_form.nd (pi_range1 (by rfl) m_range (pa_cons (pv 2) pa_nil)) (blkOk_by (own := [("_law_i", 8)]) (N := ["_law_bag_here", "_law_g", "_law_many", "_law_way", "_law_lack", "_law_row_here", "_law_table", "_law_k", "_law_i", "_law_j"]) (sc := defScope s__law_form) (by decide +kernel)) (fun _ _ _ _ _ => (pg_name (i := 8) sc__law_form.nd rfl (.inr rfl))) (fun _ _ _ _ _ => pts_nil) (fun _ _ _ _ _ => (pe_callTy (r := rTupOf K) call_tupOf (by rfl) m_tuple (by decide +kernel) (pa_cons (pe_lc (own := [("_law_j", 9)]) (g := gName 9) (tt := tYes) (wi := iRng1 (tCons (tVar 2) tNil)) (by rfl) sc__law_form.nd (pi_range1 (by rfl) m_range (pa_cons (pv 2) pa_nil)) (blkOk_by (own := [("_law_j", 9)]) (N := ["_law_bag_here", "_law_g", "_law_many", "_law_way", "_law_lack", "_law_row_here", "_law_table", "_law_k", "_law_i", "_law_j"]) (sc := ({ kind := PySem.ScopeKind.function, names := [ (PySem.Str.ofString ".0", PySem.NameKind.local), (PySem.Str.ofString "_law_i", PySem.NameKind.cell), (PySem.Str.ofString "tuple", PySem.NameKind.globalImplicit), (PySem.Str.ofString "range", PySem.NameKind.globalImplicit), (PySem.Str.ofString "_law_many", PySem.NameKind.cell), (PySem.Str.ofString "_law_row_here", PySem.NameKind.cell)], isGenerator := false, isCoroutine := false, more := [] } : Scope)) (by decide +kernel)) (fun _ _ _ _ _ => (pg_name (i := 9) sc__law_form.nd rfl (.inl rfl))) (fun _ _ _ _ _ => pts_nil) (fun _ _ _ _ _ => (pe_ifExp (pt_cmpR op_eq (pv 8) (pv 9) (nomark _)) (pe_ix (r := rIxL K) ix_list (pv 5) (pv 8) (fun _ _ => rfl)) (pe_tup (pa_cons pe_int (pa_cons pe_int pa_nil)))))) pa_nil)))) pa_nil)))
        (pss_one (ps_ret (pe_ifExp (pt_cmpR op_eq (pv 3) pe_int (nomark _)) (pv 6) (pe_call G__law_changed hr (by rfl) g__law_changed F__law_changed.kp b__law_changed .nil pass0 (pa_cons (pv 0) (pa_cons (pv 1) (pa_cons (pv 6) pa_nil)))))))))))), ?_⟩
    have hg := hgr.two
    have ⟨hg0, hg13⟩ := hgr.bd
    walk_at "go"
    refine ⟨b, 4, rfl, by decide, by decide, hb, fun Ha wy ha0 ha1 ma hba => ?_⟩
    walk_at "go"
    refine w_new (by simp) fun o1 Hb ho1 sb hob => ?_
    refine ⟨g, .ref o1, (1, 1), rfl, hg0, hg13, ⟨o1, rfl, hob⟩, by show (1 : Int).natAbs < 2 ^ 8000; exact Nat.lt_of_lt_of_le (show 1 < 2 ^ 1 by decide) (Nat.pow_le_pow_right (by decide) (by decide)), by decide, fun p2 Hc hp2 sc hpc => ?_⟩
    walk_at "go"
    refine w_new (by simp) fun o3 Hd ho3 sd hod => ?_
    walk_at "go"
    refine w_new (by simp) fun o4 He ho4 se hoe => ?_
    walk_at "go"
    refine w_rep hoe (by omega) (by omega) (by simp) ?_
    refine w_newO fun L H1 hLn s5 hL => ?_
    rw [Int.toNat_natCast, rep_one] at hL
    have sa5 := sb.trans (sc.trans (sd.trans (se.trans s5)))
    have mvX := ma.trans (Mv.same sa5)
    have hbX := hba.same sa5
    have tlack : TN g 7 (minusF g (1, 1)) := (tn_minus hg (tn_one hg) (Nat.le_refl 4)).mono (by decide)
    have t1 : TN g 7 (1, 1) := (tn_one hg).mono (by decide)
    have h3' : H1 o3 = some (.tup [.int 1, .int 1]) := s5 _ _ (se _ _ hod)
    have h2' : H1 p2 = some (.tup [.int (minusF g (1, 1)).1, .int (minusF g (1, 1)).2]) := s5 _ _ (se _ _ (sd _ _ hpc))
    walk_at "go"
    refine w_ite (fun hc1 => ?_) (fun hc1 => ?_)
    · walk_at "go"
      refine ⟨by omega, by omega, fun D0 hD0 => ?_⟩
      refine lc_range (fun i H' => Same H1 H' ∧ ∃ (xs : List V) (d : List (Int × Int)), H' D0 = some (.lst xs) ∧ d.length = i ∧ Acc NumV H' xs d i ∧ ∀ a ∈ d, TZ g 2520 161280 a ∧ TN g 7 a ∧ a.1 ≠ 0) ⟨Same.updD (Same.refl H1) hD0, [], [], upd_same, rfl, Acc.nil, fun a ha => (by cases ha)⟩ (fun i H' hi hP => ?_) (fun H' hP => ?_)
      · obtain ⟨sm, xs, d, hD', hdl, hacc, hd⟩ := hP
        walk_at "go"
        refine ⟨rfl, ?_⟩
        walk_at "go"
        refine w_new (by simp) fun o6 H6 ho6 s6 h6 => ?_
        walk_at "go"
        refine w_new (by simp) fun o7 H7 ho7 s7 h7 => ?_
        walk_at "go"
        refine w_I (by decide) ?_
        have s67 := s6.trans s7
        obtain ⟨y, a, ey, hy, hya⟩ : ∃ y a, atI [V.ref o6, V.ref p2] ((0 + (i : Int)).fmod 2) = some y ∧ NumV H7 y a ∧ TZ g 2520 161280 a ∧ TN g 7 a ∧ a.1 ≠ 0 := by
          have hf : (0 + (i : Int)).fmod 2 = 0 ∨ (0 + (i : Int)).fmod 2 = 1 := by
            rw [fmod_pos _ (by decide)]
            omega
          rcases hf with e | e
          · rw [e]
            exact ⟨_, (1, 1), rfl, ⟨o6, rfl, s7 _ _ h6⟩, tz_oneW hg, t1, by decide⟩
          · rw [e]
            exact ⟨_, minusF g (1, 1), rfl, ⟨p2, rfl, s67 _ _ (sm _ _ h2')⟩, tz_lackW hg, tlack, lack_ne hg⟩
        refine w_ixL h7 ey ?_
        have h7D := s67 _ _ hD'
        have kt : Kt H' (upd H7 D0 (.lst (xs ++ [y]))) := (Kt.of s67).trans (Kt.updL h7D)
        refine ⟨xs, h7D, small1000 (by rw [hacc.1]; omega), Same.updD (sm.trans s67) hD0, _, d ++ [a], upd_same, by rw [List.length_append, hdl]; rfl, acc_app (hacc.mono fun x a h => NumV.kt h kt) hdl (hy.kt (Kt.updL h7D)), fun c hc => ?_⟩
        rcases List.mem_append.mp hc with h | h
        · exact hd c h
        · rw [List.mem_singleton.mp h]
          exact hya
      · obtain ⟨sm, xs, d, hL, hdl, hacc, hd⟩ := hP
        rw [Int.toNat_natCast] at hdl hacc
        have mvX := mvX.trans (Mv.same sm)
        have hbX := hbX.same sm
        have L := D0
        clear hD0
        revert sm hL hacc mvX hbX
        generalize H' = H1
        intro sm hL hacc mvX hbX
        have hxl : xs.length = m := hacc.1
        have hfrm := diag_frm hg W hdl hd
        walk_at "go"
        refine ⟨by omega, by omega, fun D hD => ?_⟩
        refine lc_range (fun i H' => Same H1 H' ∧ ∃ ys, H' D = some (.lst ys) ∧ Acc RowV H' ys (diagF d) i) ⟨Same.updD (Same.refl H1) hD, [], upd_same, Acc.nil⟩ (fun i H' hi hP => ?_) (fun H' hP => ?_)
        · obtain ⟨sm, ys, hD', hacc2⟩ := hP
          have hi' : i < m := by omega
          have hL' := sm _ _ hL
          have gx : xs[i]? = some (xs[i]'(by omega)) := List.getElem?_eq_getElem _
          have gd : d[i]? = some (d[i]'(by omega)) := List.getElem?_eq_getElem _
          have gdD : d.getD i (0, 1) = d[i]'(by omega) := by rw [List.getD_eq_getElem?_getD, gd]; rfl
          have hn := hacc.2 i _ _ gx gd
          walk_at "go"
          refine ⟨rfl, ?_⟩
          walk_at "go"
          refine ⟨by omega, by omega, fun D2 hD2 => ?_⟩
          refine lc_range (fun j H'' => Same H' H'' ∧ ∃ zs, H'' D2 = some (.lst zs) ∧ Acc NumV H'' zs ((List.range m).map fun j => if i = j then d.getD i (0, 1) else (0, 1)) j) ⟨Same.updD (Same.refl H') hD2, [], upd_same, Acc.nil⟩ (fun j H'' hj hP => ?_) (fun H'' hP => ?_)
          · obtain ⟨sm2, zs, hD2', hacc3⟩ := hP
            have hj' : j < m := by omega
            walk_at "go"
            refine ⟨rfl, ?_⟩
            walk_at "go"
            refine w_ite (fun hc => ?_) (fun hc => ?_)
            · walk_at "go"
              refine w_ixL (sm2 _ _ hL') (by rw [show (0 : Int) + (i : Int) = (i : Int) by omega]; exact atI_nat gx) ?_
              have kt : Kt H'' (upd H'' D2 (.lst (zs ++ [xs[i]'(by omega)]))) := Kt.updL hD2'
              refine ⟨zs, hD2', small1000 (by rw [hacc3.1]; omega), Same.updD sm2 hD2, _, upd_same, ?_⟩
              refine (hacc3.mono fun x a h => NumV.kt h kt).snoc (a := if i = j then d.getD i (0, 1) else (0, 1)) (by rw [List.getElem?_map, List.getElem?_range hj']; rfl) ?_
              rw [if_pos (show i = j by omega), gdD]
              exact (hn.kt (Kt.of (sm.trans sm2))).kt kt
            · walk_at "go"
              refine w_new (by simp) fun p3 H3 hp3 s3 h3 => ?_
              have h3D := s3 _ _ hD2'
              have kt : Kt H'' (upd H3 D2 (.lst (zs ++ [V.ref p3]))) := (Kt.of s3).trans (Kt.updL h3D)
              refine ⟨zs, h3D, small1000 (by rw [hacc3.1]; omega), Same.updD (sm2.trans s3) hD2, _, upd_same, ?_⟩
              refine (hacc3.mono fun x a h => NumV.kt h kt).snoc (a := if i = j then d.getD i (0, 1) else (0, 1)) (by rw [List.getElem?_map, List.getElem?_range hj']; rfl) ?_
              rw [if_neg (show ¬ i = j by omega)]
              exact ⟨p3, rfl, Kt.updL h3D _ _ h3⟩
          · obtain ⟨sm2, zs, hD2', hacc3⟩ := hP
            walk_at "go"
            refine ⟨_, _, rfl, .inl ⟨SqL.of hD2', fun l hl => ?_⟩⟩
            have s4 := same_upd (o := HO.tup zs) hl
            have h4D := s4 _ _ (sm2 _ _ hD')
            have kt : Kt H' (upd (upd H'' l (.tup zs)) D (.lst (ys ++ [V.ref l]))) := (Kt.of (sm2.trans s4)).trans (Kt.updL h4D)
            refine ⟨ys, h4D, small1000 (by rw [hacc2.1]; omega), Same.updD (sm.trans (sm2.trans s4)) hD, _, upd_same, ?_⟩
            refine (hacc2.mono fun x a h => RowV.kt h kt).snoc (a := (List.range m).map fun j => if i = j then d.getD i (0, 1) else (0, 1)) (by unfold diagF; rw [hdl, List.getElem?_map, List.getElem?_range hi']; rfl) ?_
            refine RowV.kt ((hacc3.mono fun x a h => NumV.kt h (Kt.of s4)).sq (p := l) ?_ upd_same) (Kt.updL h4D)
            rw [List.length_map, List.length_range]
            omega
        · obtain ⟨sm, ys, hD', hacc2⟩ := hP
          walk_at "go"
          refine ⟨_, _, rfl, .inl ⟨SqL.of hD', fun l hl => ?_⟩⟩
          have s4 := same_upd (o := HO.tup ys) hl
          have h4 : (upd H' l (.tup ys)) l = some (.tup ys) := upd_same
          generalize upd H' l (.tup ys) = H4 at s4 h4 ⊢
          have hTv : TabV H4 (.ref l) (diagF d) := (hacc2.mono fun x a h => RowV.kt h (Kt.of s4)).sq (by unfold diagF; rw [List.length_map, List.length_range, hdl]; omega) h4
          have s14 := sm.trans s4
          walk_at "go"
          refine w_ite (fun hc => ?_) (fun hc => ?_)
          · walk_at "go"
            exact q _ _ _ hTv (frm_mono hfrm (by decide)) (mvX.trans (Mv.same s14)) (hbX.same s14)
          · walk_at "go"
            refine ⟨b, g, .ref l, diagF d, m, F', R, W, rfl, hgr, hbX.same s14, hTv, hfrm, hm1, hm, fun H5 v5 T5 h5 hf5 m5 hb5 => ?_⟩
            exact q _ _ T5 h5 hf5 (mvX.trans ((Mv.same s14).trans m5)) hb5
    · walk_at "go"
      refine w_ite (fun hc2 => ?_) (fun hc2 => ?_)
      · walk_at "go"
        refine ⟨by omega, by omega, fun D0 hD0 => ?_⟩
        have nD := bag_ne hbX hD0
        have hD00 : H D0 = none := by
          cases e : H D0 with
          | none => rfl
          | some o => exact absurd (mvX _ _ nD e) (by rw [hD0]; exact fun z => (by cases z))
        refine lc_range (fun i H' => Mv b H H' ∧ Bag H' b ∧ ∃ (xs : List V) (d : List (Int × Int)), H' D0 = some (.lst xs) ∧ d.length = i ∧ Acc NumV H' xs d i ∧ ∀ a ∈ d, TZ g 2520 161280 a ∧ TN g 7 a ∧ a.1 ≠ 0) ⟨mvX.updD hD00, hbX.upd nD, [], [], upd_same, rfl, Acc.nil, fun a ha => (by cases ha)⟩ (fun i H' hi hP => ?_) (fun H' hP => ?_)
        · obtain ⟨mv, hbi, xs, d, hD', hdl, hacc, hd⟩ := hP
          walk_at "go"
          refine ⟨rfl, ?_⟩
          walk_at "go"
          refine ⟨b, g, rfl, hgr, hbi, fun H6 y a hy hng hta hne m6 hb6 => ?_⟩
          have h6D := m6 _ _ nD hD'
          have kt : Kt H' (upd H6 D0 (.lst (xs ++ [y]))) := (m6.kt hbi).trans (Kt.updL h6D)
          refine ⟨xs, h6D, small1000 (by rw [hacc.1]; omega), (mv.trans m6).updD hD00, hb6.upd nD, _, d ++ [a], upd_same, by rw [List.length_append, hdl]; rfl, acc_app (hacc.mono fun x a h => NumV.kt h kt) hdl (hy.kt (Kt.updL h6D)), fun c hc => ?_⟩
          rcases List.mem_append.mp hc with h | h
          · exact hd c h
          · rw [List.mem_singleton.mp h]
            exact ⟨ng_tz hg hng hta, hta, hne⟩
        · obtain ⟨mvX, hbX, xs, d, hL, hdl, hacc, hd⟩ := hP
          rw [Int.toNat_natCast] at hdl hacc
          clear hD0
          revert hL hacc mvX hbX
          generalize H' = H1
          intro mvX hbX hL hacc
          have hxl : xs.length = m := hacc.1
          have hfrm := diag_frm hg W hdl hd
          walk_at "go"
          refine ⟨by omega, by omega, fun D hD => ?_⟩
          refine lc_range (fun i H' => Same H1 H' ∧ ∃ ys, H' D = some (.lst ys) ∧ Acc RowV H' ys (diagF d) i) ⟨Same.updD (Same.refl H1) hD, [], upd_same, Acc.nil⟩ (fun i H' hi hP => ?_) (fun H' hP => ?_)
          · obtain ⟨sm, ys, hD', hacc2⟩ := hP
            have hi' : i < m := by omega
            have hL' := sm _ _ hL
            have gx : xs[i]? = some (xs[i]'(by omega)) := List.getElem?_eq_getElem _
            have gd : d[i]? = some (d[i]'(by omega)) := List.getElem?_eq_getElem _
            have gdD : d.getD i (0, 1) = d[i]'(by omega) := by rw [List.getD_eq_getElem?_getD, gd]; rfl
            have hn := hacc.2 i _ _ gx gd
            walk_at "go"
            refine ⟨rfl, ?_⟩
            walk_at "go"
            refine ⟨by omega, by omega, fun D2 hD2 => ?_⟩
            refine lc_range (fun j H'' => Same H' H'' ∧ ∃ zs, H'' D2 = some (.lst zs) ∧ Acc NumV H'' zs ((List.range m).map fun j => if i = j then d.getD i (0, 1) else (0, 1)) j) ⟨Same.updD (Same.refl H') hD2, [], upd_same, Acc.nil⟩ (fun j H'' hj hP => ?_) (fun H'' hP => ?_)
            · obtain ⟨sm2, zs, hD2', hacc3⟩ := hP
              have hj' : j < m := by omega
              walk_at "go"
              refine ⟨rfl, ?_⟩
              walk_at "go"
              refine w_ite (fun hc => ?_) (fun hc => ?_)
              · walk_at "go"
                refine w_ixL (sm2 _ _ hL') (by rw [show (0 : Int) + (i : Int) = (i : Int) by omega]; exact atI_nat gx) ?_
                have kt : Kt H'' (upd H'' D2 (.lst (zs ++ [xs[i]'(by omega)]))) := Kt.updL hD2'
                refine ⟨zs, hD2', small1000 (by rw [hacc3.1]; omega), Same.updD sm2 hD2, _, upd_same, ?_⟩
                refine (hacc3.mono fun x a h => NumV.kt h kt).snoc (a := if i = j then d.getD i (0, 1) else (0, 1)) (by rw [List.getElem?_map, List.getElem?_range hj']; rfl) ?_
                rw [if_pos (show i = j by omega), gdD]
                exact (hn.kt (Kt.of (sm.trans sm2))).kt kt
              · walk_at "go"
                refine w_new (by simp) fun p3 H3 hp3 s3 h3 => ?_
                have h3D := s3 _ _ hD2'
                have kt : Kt H'' (upd H3 D2 (.lst (zs ++ [V.ref p3]))) := (Kt.of s3).trans (Kt.updL h3D)
                refine ⟨zs, h3D, small1000 (by rw [hacc3.1]; omega), Same.updD (sm2.trans s3) hD2, _, upd_same, ?_⟩
                refine (hacc3.mono fun x a h => NumV.kt h kt).snoc (a := if i = j then d.getD i (0, 1) else (0, 1)) (by rw [List.getElem?_map, List.getElem?_range hj']; rfl) ?_
                rw [if_neg (show ¬ i = j by omega)]
                exact ⟨p3, rfl, Kt.updL h3D _ _ h3⟩
            · obtain ⟨sm2, zs, hD2', hacc3⟩ := hP
              walk_at "go"
              refine ⟨_, _, rfl, .inl ⟨SqL.of hD2', fun l hl => ?_⟩⟩
              have s4 := same_upd (o := HO.tup zs) hl
              have h4D := s4 _ _ (sm2 _ _ hD')
              have kt : Kt H' (upd (upd H'' l (.tup zs)) D (.lst (ys ++ [V.ref l]))) := (Kt.of (sm2.trans s4)).trans (Kt.updL h4D)
              refine ⟨ys, h4D, small1000 (by rw [hacc2.1]; omega), Same.updD (sm.trans (sm2.trans s4)) hD, _, upd_same, ?_⟩
              refine (hacc2.mono fun x a h => RowV.kt h kt).snoc (a := (List.range m).map fun j => if i = j then d.getD i (0, 1) else (0, 1)) (by unfold diagF; rw [hdl, List.getElem?_map, List.getElem?_range hi']; rfl) ?_
              refine RowV.kt ((hacc3.mono fun x a h => NumV.kt h (Kt.of s4)).sq (p := l) ?_ upd_same) (Kt.updL h4D)
              rw [List.length_map, List.length_range]
              omega
          · obtain ⟨sm, ys, hD', hacc2⟩ := hP
            walk_at "go"
            refine ⟨_, _, rfl, .inl ⟨SqL.of hD', fun l hl => ?_⟩⟩
            have s4 := same_upd (o := HO.tup ys) hl
            have h4 : (upd H' l (.tup ys)) l = some (.tup ys) := upd_same
            generalize upd H' l (.tup ys) = H4 at s4 h4 ⊢
            have hTv : TabV H4 (.ref l) (diagF d) := (hacc2.mono fun x a h => RowV.kt h (Kt.of s4)).sq (by unfold diagF; rw [List.length_map, List.length_range, hdl]; omega) h4
            have s14 := sm.trans s4
            walk_at "go"
            refine w_ite (fun hc => ?_) (fun hc => ?_)
            · walk_at "go"
              exact q _ _ _ hTv (frm_mono hfrm (by decide)) (mvX.trans (Mv.same s14)) (hbX.same s14)
            · walk_at "go"
              refine ⟨b, g, .ref l, diagF d, m, F', R, W, rfl, hgr, hbX.same s14, hTv, hfrm, hm1, hm, fun H5 v5 T5 h5 hf5 m5 hb5 => ?_⟩
              exact q _ _ T5 h5 hf5 (mvX.trans ((Mv.same s14).trans m5)) hb5
      · have hd : ∀ a ∈ List.replicate m ((1 : Int), (1 : Int)), TZ g 2520 161280 a ∧ TN g 7 a ∧ a.1 ≠ 0 := fun a ha => by
          rw [List.eq_of_mem_replicate ha]
          exact ⟨tz_oneW hg, t1, by decide⟩
        have hdl : (List.replicate m ((1 : Int), (1 : Int))).length = m := List.length_replicate
        have hacc : Acc NumV H1 (List.replicate m (V.ref o3)) (List.replicate m ((1 : Int), (1 : Int))) m := ⟨List.length_replicate, fun j x a e1 e2 => by
          rw [List.eq_of_mem_replicate (List.mem_of_getElem? e1), List.eq_of_mem_replicate (List.mem_of_getElem? e2)]
          exact ⟨o3, rfl, h3'⟩⟩
        generalize List.replicate m ((1 : Int), (1 : Int)) = d at hd hdl hacc
        generalize List.replicate m (V.ref o3) = xs at hL hacc
        have hxl : xs.length = m := hacc.1
        have hfrm := diag_frm hg W hdl hd
        walk_at "go"
        refine ⟨by omega, by omega, fun D hD => ?_⟩
        refine lc_range (fun i H' => Same H1 H' ∧ ∃ ys, H' D = some (.lst ys) ∧ Acc RowV H' ys (diagF d) i) ⟨Same.updD (Same.refl H1) hD, [], upd_same, Acc.nil⟩ (fun i H' hi hP => ?_) (fun H' hP => ?_)
        · obtain ⟨sm, ys, hD', hacc2⟩ := hP
          have hi' : i < m := by omega
          have hL' := sm _ _ hL
          have gx : xs[i]? = some (xs[i]'(by omega)) := List.getElem?_eq_getElem _
          have gd : d[i]? = some (d[i]'(by omega)) := List.getElem?_eq_getElem _
          have gdD : d.getD i (0, 1) = d[i]'(by omega) := by rw [List.getD_eq_getElem?_getD, gd]; rfl
          have hn := hacc.2 i _ _ gx gd
          walk_at "go"
          refine ⟨rfl, ?_⟩
          walk_at "go"
          refine ⟨by omega, by omega, fun D2 hD2 => ?_⟩
          refine lc_range (fun j H'' => Same H' H'' ∧ ∃ zs, H'' D2 = some (.lst zs) ∧ Acc NumV H'' zs ((List.range m).map fun j => if i = j then d.getD i (0, 1) else (0, 1)) j) ⟨Same.updD (Same.refl H') hD2, [], upd_same, Acc.nil⟩ (fun j H'' hj hP => ?_) (fun H'' hP => ?_)
          · obtain ⟨sm2, zs, hD2', hacc3⟩ := hP
            have hj' : j < m := by omega
            walk_at "go"
            refine ⟨rfl, ?_⟩
            walk_at "go"
            refine w_ite (fun hc => ?_) (fun hc => ?_)
            · walk_at "go"
              refine w_ixL (sm2 _ _ hL') (by rw [show (0 : Int) + (i : Int) = (i : Int) by omega]; exact atI_nat gx) ?_
              have kt : Kt H'' (upd H'' D2 (.lst (zs ++ [xs[i]'(by omega)]))) := Kt.updL hD2'
              refine ⟨zs, hD2', small1000 (by rw [hacc3.1]; omega), Same.updD sm2 hD2, _, upd_same, ?_⟩
              refine (hacc3.mono fun x a h => NumV.kt h kt).snoc (a := if i = j then d.getD i (0, 1) else (0, 1)) (by rw [List.getElem?_map, List.getElem?_range hj']; rfl) ?_
              rw [if_pos (show i = j by omega), gdD]
              exact (hn.kt (Kt.of (sm.trans sm2))).kt kt
            · walk_at "go"
              refine w_new (by simp) fun p3 H3 hp3 s3 h3 => ?_
              have h3D := s3 _ _ hD2'
              have kt : Kt H'' (upd H3 D2 (.lst (zs ++ [V.ref p3]))) := (Kt.of s3).trans (Kt.updL h3D)
              refine ⟨zs, h3D, small1000 (by rw [hacc3.1]; omega), Same.updD (sm2.trans s3) hD2, _, upd_same, ?_⟩
              refine (hacc3.mono fun x a h => NumV.kt h kt).snoc (a := if i = j then d.getD i (0, 1) else (0, 1)) (by rw [List.getElem?_map, List.getElem?_range hj']; rfl) ?_
              rw [if_neg (show ¬ i = j by omega)]
              exact ⟨p3, rfl, Kt.updL h3D _ _ h3⟩
          · obtain ⟨sm2, zs, hD2', hacc3⟩ := hP
            walk_at "go"
            refine ⟨_, _, rfl, .inl ⟨SqL.of hD2', fun l hl => ?_⟩⟩
            have s4 := same_upd (o := HO.tup zs) hl
            have h4D := s4 _ _ (sm2 _ _ hD')
            have kt : Kt H' (upd (upd H'' l (.tup zs)) D (.lst (ys ++ [V.ref l]))) := (Kt.of (sm2.trans s4)).trans (Kt.updL h4D)
            refine ⟨ys, h4D, small1000 (by rw [hacc2.1]; omega), Same.updD (sm.trans (sm2.trans s4)) hD, _, upd_same, ?_⟩
            refine (hacc2.mono fun x a h => RowV.kt h kt).snoc (a := (List.range m).map fun j => if i = j then d.getD i (0, 1) else (0, 1)) (by unfold diagF; rw [hdl, List.getElem?_map, List.getElem?_range hi']; rfl) ?_
            refine RowV.kt ((hacc3.mono fun x a h => NumV.kt h (Kt.of s4)).sq (p := l) ?_ upd_same) (Kt.updL h4D)
            rw [List.length_map, List.length_range]
            omega
        · obtain ⟨sm, ys, hD', hacc2⟩ := hP
          walk_at "go"
          refine ⟨_, _, rfl, .inl ⟨SqL.of hD', fun l hl => ?_⟩⟩
          have s4 := same_upd (o := HO.tup ys) hl
          have h4 : (upd H' l (.tup ys)) l = some (.tup ys) := upd_same
          generalize upd H' l (.tup ys) = H4 at s4 h4 ⊢
          have hTv : TabV H4 (.ref l) (diagF d) := (hacc2.mono fun x a h => RowV.kt h (Kt.of s4)).sq (by unfold diagF; rw [List.length_map, List.length_range, hdl]; omega) h4
          have s14 := sm.trans s4
          walk_at "go"
          refine w_ite (fun hc => ?_) (fun hc => ?_)
          · walk_at "go"
            exact q _ _ _ hTv (frm_mono hfrm (by decide)) (mvX.trans (Mv.same s14)) (hbX.same s14)
          · walk_at "go"
            refine ⟨b, g, .ref l, diagF d, m, F', R, W, rfl, hgr, hbX.same s14, hTv, hfrm, hm1, hm, fun H5 v5 T5 h5 hf5 m5 hb5 => ?_⟩
            exact q _ _ T5 h5 hf5 (mvX.trans ((Mv.same s14).trans m5)) hb5
theorem ok__law_with_worth {f : Addr} {fd : FuncData} (F : FnP K "_law_with_worth" s__law_with_worth f fd)
    {f__law_ones : Addr} {fd__law_ones : FuncData} (F__law_ones : FnP K "_law_ones" s__law_ones f__law_ones fd__law_ones) (b__law_ones : Binds K fd__law_ones ["_law_many"] []) (g__law_ones : mg "_law_ones" = some (.ref f__law_ones)) (G__law_ones : FnOk P w K mg base CX0 1 f__law_ones fd__law_ones ["_law_many"] (sp__law_ones K))
    {f__law_row : Addr} {fd__law_row : FuncData} (F__law_row : FnP K "_law_row" s__law_row f__law_row fd__law_row) (b__law_row : Binds K fd__law_row ["_law_bag_here", "_law_g", "_law_many"] []) (g__law_row : mg "_law_row" = some (.ref f__law_row)) (G__law_row : FnOk P w K mg base CX0 4 f__law_row fd__law_row ["_law_bag_here", "_law_g", "_law_many"] (sp__law_row K))
    {f__law_mixed : Addr} {fd__law_mixed : FuncData} (F__law_mixed : FnP K "_law_mixed" s__law_mixed f__law_mixed fd__law_mixed) (b__law_mixed : Binds K fd__law_mixed ["_law_bag_here", "_law_row_here"] []) (g__law_mixed : mg "_law_mixed" = some (.ref f__law_mixed)) (G__law_mixed : FnOk P w K mg base CX0 2 f__law_mixed fd__law_mixed ["_law_bag_here", "_law_row_here"] (sp__law_mixed K))
    {f__law_added : Addr} {fd__law_added : FuncData} (F__law_added : FnP K "_law_added" s__law_added f__law_added fd__law_added) (b__law_added : Binds K fd__law_added ["_law_g", "_law_row_here", "_law_other"] []) (g__law_added : mg "_law_added" = some (.ref f__law_added)) (G__law_added : FnOk P w K mg base CX0 4 f__law_added fd__law_added ["_law_g", "_law_row_here", "_law_other"] (sp__law_added K))
    {f__law_worth : Addr} {fd__law_worth : FuncData} (F__law_worth : FnP K "_law_worth" s__law_worth f__law_worth fd__law_worth) (b__law_worth : Binds K fd__law_worth ["_law_g", "_law_table", "_law_row_here"] []) (g__law_worth : mg "_law_worth" = some (.ref f__law_worth)) (G__law_worth : FnOk P w K mg base CX0 7 f__law_worth fd__law_worth ["_law_g", "_law_table", "_law_row_here"] (sp__law_worth K)) (m_len : mg "len" = none) (m_range : mg "range" = none) (m_list : mg "list" = none) :
    FnOk P w K mg base CX0 8 f fd ["_law_bag_here", "_law_g", "_law_table"] (sp__law_with_worth K) := by
  refine F.ok sc__law_with_worth (fun vs H Q E h => ?_) (fun cdv A outer s H vs Q E hr h => ?_)
  · obtain ⟨b, g, x, t, m, F', R, W, rfl, hgr, hb, hx, hf, hm1, hm, q⟩ := h
    rfl
  · obtain ⟨b, g, x, t, m, F', R, W, rfl, hgr, hb, hx, hf, hm1, hm, q⟩ := h
    refine ⟨_, PSs.nox (pss_cons (ps_set (i := 3) sc__law_with_worth.nd rfl (.inl rfl) (pe_callB call_len_seq (by rfl) m_len (by decide +kernel) (pa_cons (pv 2) pa_nil)))
        (pss_cons (ps_set (i := 4) sc__law_with_worth.nd rfl (.inr rfl) (pe_call G__law_ones (hr.mono (by decide)) (by rfl) g__law_ones F__law_ones.kp b__law_ones .nil pass0 (pa_cons (pv 3) pa_nil)))
        (pss_cons (ps_set (i := 5) sc__law_with_worth.nd rfl (.inl rfl) (pe_call G__law_row (hr.mono (by decide)) (by rfl) g__law_row F__law_row.kp b__law_row .nil pass0 (pa_cons (pv 0) (pa_cons (pv 1) (pa_cons (pv 3) pa_nil)))))
        (pss_cons (ps_set (i := 6) sc__law_with_worth.nd rfl (.inl rfl) (pe_op op_cat (pe_lst (pa_cons (pv 5) pa_nil)) (pe_call G__law_mixed (hr.mono (by decide)) (by rfl) g__law_mixed F__law_mixed.kp b__law_mixed .nil pass0 (pa_cons (pv 0) (pa_cons (pe_callTy call_list_of (by rfl) m_list (by decide +kernel) (pa_cons (pv 4) pa_nil)) pa_nil)))))
        (pss_cons (ps_for PassesOwn.never rfl (pi_range1 (by rfl) m_range (pa_cons (pv 3) pa_nil)) (pg_name (i := 7) sc__law_with_worth.nd rfl (.inr rfl)) (pss_one (ps_expr (pe_bm PySem.F.plainAttrs_list PySem.F.slot_list_extend PySem.F.type_list_extend mt_extend (pv 6) (pa_cons (pe_lc (own := [("_law_j", 9)]) (g := gName 9) (tt := tYes) (by rfl) sc__law_with_worth.nd (pi_range1 (by rfl) m_range (pa_cons (pv 7) pa_nil)) (blkOk_by (own := [("_law_j", 9)]) (N := ["_law_bag_here", "_law_g", "_law_table", "_law_many", "_law_letters_here", "_law_row_here", "_law_some", "_law_k", "_law_one", "_law_j"]) (sc := defScope s__law_with_worth) (by decide +kernel)) (fun _ _ _ _ _ => (pg_name (i := 9) sc__law_with_worth.nd rfl (.inl rfl))) (fun _ _ _ _ _ => pts_nil) (fun _ _ _ _ _ => (pe_call G__law_added (hr.mono (by decide)) (by rfl) g__law_added F__law_added.kp b__law_added .nil pass0 (pa_cons (pv 1) (pa_cons (pe_ix (r := rIxT K) ix_tup (pv 4) (pv 9) (fun _ _ => rfl)) (pa_cons (pe_ix (r := rIxT K) ix_tup (pv 4) (pv 7) (fun _ _ => rfl)) pa_nil)))))) pa_nil)))))
        (pss_one (ps_ret (pe_ix ix_list (pe_lc (own := [("_law_one", 8)]) (g := gName 8) (by rfl) sc__law_with_worth.nd (pi_list (pv 6)) (blkOk_by (own := [("_law_one", 8)]) (N := ["_law_bag_here", "_law_g", "_law_table", "_law_many", "_law_letters_here", "_law_row_here", "_law_some", "_law_k", "_law_one", "_law_j"]) (sc := defScope s__law_with_worth) (by decide +kernel)) (fun _ _ _ _ _ => (pg_name (i := 8) sc__law_with_worth.nd rfl (.inl rfl))) (fun _ _ _ _ _ => (pts_one (pt_cmpR (r := rNeD K) (op_neD hr.units) (pe_call G__law_worth hr (by rfl) g__law_worth F__law_worth.kp b__law_worth .nil pass0 (pa_cons (pv 1) (pa_cons (pv 2) (pa_cons (pv 8) pa_nil)))) (pe_tup (pa_cons pe_int (pa_cons pe_int pa_nil))) (nomark _)))) (fun _ _ _ _ _ => (pv 8))) pe_int (fun _ _ => rfl))))))))), ?_⟩
    have hg := hgr.two
    have ⟨hg0, hg13⟩ := hgr.bd
    obtain ⟨hb1, hb2, hb3, _, _, _⟩ := mir_b1 hm
    have htl := hf.len
    obtain ⟨px, xx, ex, hpx, hlx, _⟩ := sqv_acc hx
    subst ex
    have hol : (onesF m).length = m := by unfold onesF; rw [List.length_map, List.length_range]
    have rzW : ∀ r ∈ onesF m, RZ g 2520 161280 m r := fun r hr => ⟨(rz_ones hg r hr).1, fun a ha => by
      have := ((rz_ones hg r hr).2 a ha).wide 2520
      rw [show (1 : Int) * 2520 = 2520 from rfl] at this
      exact this.mono (by decide)⟩
    walk_at "go"
    refine ⟨px, xx, rfl, .inr (SqT.of hpx), ?_⟩
    walk_at "go"
    refine ⟨m, by rw [hlx, htl]; rfl, by omega, fun v1 H1 s1 h1 => ?_⟩
    obtain ⟨po, xo, rfl, hpo, hlo, hao⟩ := sqv_acc h1
    have hb1' := hb.same s1
    walk_at "go"
    refine ⟨b, g, (xx.length : Int), rfl, hgr, by omega, by omega, hb1', fun H2 v2 r2 h2 hr2l hr2 m2 hb2' => ?_⟩
    have hr2z : RZ g 2520 161280 m r2 := ⟨by rw [hr2l, Int.toNat_natCast]; omega, fun a ha => ng_tz hg (hr2 a ha).1 (hr2 a ha).2⟩
    have kt2 : Kt H1 H2 := m2.kt hb1'
    walk_at "go"
    refine w_new (by simp) fun L3 H3 hL3 s3 h3 => ?_
    walk_at "go"
    refine ⟨_, _, rfl, .inr (SqT.of (s3 _ _ (kt2 _ _ hpo))), fun L4 hL4 => ?_⟩
    have s4 := same_upd (o := HO.lst xo) hL4
    have h4 : (upd H3 L4 (.lst xo)) L4 = some (.lst xo) := upd_same
    generalize upd H3 L4 (.lst xo) = H4 at s4 h4 ⊢
    have hb4' := hb2'.same (s3.trans s4)
    have nL4 : L4 ≠ b := bag_ne (hb2'.same s3) hL4
    have nL3 : L3 ≠ b := bag_ne hb2' hL3
    refine ⟨b, L4, xo, rfl, hb4', h4, nL4, by omega, fun q5 H5 ys m5 hb5' h5 hq5 hyl hym => ?_⟩
    have kt25 : Kt H2 H5 := (Kt.of (s3.trans s4)).trans (m5.kt hb4')
    refine w_cat (m5 _ _ nL3 (s4 _ _ h3)) h5 (by rw [hyl, hlo, hol]; show 1 + m ≤ 1000; omega) ?_
    refine w_newO fun S H6 hSn s6 h6 => ?_
    have kt26 := kt25.trans (Kt.of s6)
    have kt16 := kt2.trans kt26
    have hmv6 : Mv b H H6 := (Mv.same s1).trans (m2.trans ((Mv.same (s3.trans s4)).trans (m5.trans (Mv.same s6))))
    have hb6' := hb5'.same s6
    have hao6 : Acc RowV H6 xo (onesF m) (onesF m).length := hao.mono fun x a h => RowV.kt h kt16
    obtain ⟨u, hu1, hu2, hu3, hu4⟩ := tab_mem hao6 (fun y hy => (hym y).mp hy)
    have nS : S ≠ b := bag_ne hb5' hSn
    have hSH : H S = none := by
      cases e : H S with
      | none => rfl
      | some o =>
        have := ((Mv.same s1).trans (m2.trans ((Mv.same (s3.trans s4)).trans m5))) _ _ nS e
        rw [hSn] at this
        cases this
    have hunits : ∀ i, i < m → ∃ r ∈ u, er W r = unit i := fun i hi => by
      have gx : xo[i]? = some (xo[i]'(by omega)) := List.getElem?_eq_getElem _
      exact ⟨_, hu4 _ _ ((hym _).mpr (List.mem_of_getElem? gx)) (hao6.2 i _ _ gx (ones_get hi)), er_onesrow hi⟩
    walk_at "go"
    refine ⟨by omega, by omega, ?_⟩
    refine for_range (fun k σ H' => (∃ y7 y8 y9, σ = [some (.ref b), some (.int g), some (.ref px), some (.int (xx.length : Int)), some (.ref po), some v2, some (.ref S), y7, y8, y9]) ∧ Kt H6 H' ∧ Mv b H H' ∧ Bag H' b ∧ ∃ (ss : List V) (us : List (List (Int × Int))), H' S = some (.lst ss) ∧ Acc RowV H' ss us us.length ∧ us.length ≤ 6 + 5 * k ∧ (∀ r ∈ us, RZ g 2520 161280 m r) ∧ (∀ i, i < m → ∃ r ∈ us, er W r = unit i) ∧ ∀ j l, j < l → l < k → ∃ r ∈ us, er W r = fun c => unit j c + unit l c) ?start (fun k σ H' hk hP => ?step) (fun σ H' hP => ?fin)
    case start =>
      refine ⟨⟨_, _, _, rfl⟩, fun _ _ h => h, hmv6, hb6', v2 :: ys, r2 :: u, h6, ?_, ?_, ?_, ?_, fun j l _ h => absurd h (Nat.not_lt_zero _)⟩
      · exact acc_cat (acc_one (RowV.kt h2 kt26)) hu1
      · rw [List.length_cons, hu2, hyl]
        omega
      · intro r hr'
        rcases List.mem_cons.mp hr' with h | h
        · rw [h]
          exact hr2z
        · exact rzW r (hu3 r h)
      · intro i hi
        obtain ⟨r, h7, h8⟩ := hunits i hi
        exact ⟨r, List.mem_cons_of_mem _ h7, h8⟩
    case step =>
      obtain ⟨⟨y7, y8, y9, rfl⟩, kt, mv, hbi, ss, us, hS, hsa, husl, husz, hu1', hu2'⟩ := hP
      have hkm : k < m := by omega
      have hpo' : H' po = some (.tup xo) := kt _ _ (kt16 _ _ hpo)
      have gk : xo[k]? = some (xo[k]'(by omega)) := List.getElem?_eq_getElem _
      have rk := RowV.kt (hao6.2 k _ _ gk (ones_get hkm)) kt
      have hn1 := rz_onesrow (g := g) (m := m) (k := k) hg
      have be1 : ∀ i, ∀ a ∈ ((List.range m).map fun j => ((if i = j then 1 else 0 : Int), (1 : Int))), PBe a := fun i => (rz_onesrow (g := g) (m := m) (k := i) hg).be hg (k := 130) (by decide) (by decide) (by decide) (by decide) (by decide)
      walk_at "go"
      refine ⟨.inl ⟨rfl, _, SqL.of hS⟩, ?_⟩
      walk_at "go"
      refine ⟨by omega, by omega, fun D hD => ?_⟩
      have nDS : S ≠ D := fresh_of hS hD
      refine lc_range (fun j H'' => Same H' H'' ∧ ∃ zs, H'' D = some (.lst zs) ∧ Acc RowV H'' zs ((List.range k).map fun j => List.zipWith (plusF g) ((List.range m).map fun c => ((if j = c then 1 else 0 : Int), (1 : Int))) ((List.range m).map fun c => ((if k = c then 1 else 0 : Int), (1 : Int)))) j) ⟨Same.updD (Same.refl H') hD, [], upd_same, Acc.nil⟩ (fun j H'' hj hP => ?_) (fun H'' hP => ?_)
      · obtain ⟨sm, zs, hD', hz⟩ := hP
        have hjk : j < k := by omega
        have gj : xo[j]? = some (xo[j]'(by omega)) := List.getElem?_eq_getElem _
        have rj := RowV.kt (hao6.2 j _ _ gj (ones_get (show j < m by omega))) kt
        walk_at "go"
        refine ⟨rfl, ?_⟩
        walk_at "go"
        refine w_ixT (sm _ _ hpo') (by rw [show (0 : Int) + (j : Int) = (j : Int) by omega]; exact atI_nat gj) ?_
        walk_at "go"
        refine w_ixT (sm _ _ hpo') (by rw [show (0 : Int) + (k : Int) = (k : Int) by omega]; exact atI_nat gk) ?_
        walk_at "go"
        refine ⟨g, _, _, _, _, rfl, hg0, hg13, RowV.kt rj (Kt.of sm), RowV.kt rk (Kt.of sm), by rw [List.length_map, List.length_map], by rw [List.length_map, List.length_range]; omega, be1 j, be1 k, fun v3 H3 s3' h3' => ?_⟩
        have h3D := s3' _ _ hD'
        have ktc : Kt H'' (upd H3 D (.lst (zs ++ [v3]))) := (Kt.of s3').trans (Kt.updL h3D)
        refine ⟨zs, h3D, small1000 (by rw [hz.1]; omega), Same.updD (sm.trans s3') hD, _, upd_same, ?_⟩
        exact (hz.mono fun x a h => RowV.kt h ktc).snoc (by rw [List.getElem?_map, List.getElem?_range hjk]; rfl) (RowV.kt h3' (Kt.updL h3D))
      · obtain ⟨sm, zs, hD', hz⟩ := hP
        have hzl : zs.length = k := by have := hz.1; omega
        have hS' := sm _ _ hS
        walk_at "go"
        refine ⟨S, D, ss, zs, rfl, rfl, hS', hD', Nat.le_of_lt (small1000 (by rw [hsa.1, hzl]; omega)), ?_⟩
        have ktc : Kt H' (upd H'' S (.lst (ss ++ zs))) := (Kt.of sm).trans (Kt.updL hS')
        have ktd : Kt H'' (upd H'' S (.lst (ss ++ zs))) := Kt.updL hS'
        have hlen : ((List.range k).map fun j => List.zipWith (plusF g) ((List.range m).map fun c => ((if j = c then 1 else 0 : Int), (1 : Int))) ((List.range m).map fun c => ((if k = c then 1 else 0 : Int), (1 : Int)))).length = k := by rw [List.length_map, List.length_range]
        refine ⟨⟨_, _, _, rfl⟩, kt.trans ktc, (mv.trans (Mv.same sm)).updD hSH, (hbi.same sm).upd nS, ss ++ zs, us ++ ((List.range k).map fun j => List.zipWith (plusF g) ((List.range m).map fun c => ((if j = c then 1 else 0 : Int), (1 : Int))) ((List.range m).map fun c => ((if k = c then 1 else 0 : Int), (1 : Int)))), upd_same, acc_cat (hsa.mono fun x a h => RowV.kt h ktc) ?_, ?_, ?_, ?_, ?_⟩
        · rw [hlen]
          exact ⟨hzl, fun j x a e1 e2 => RowV.kt (hz.2 j x a e1 e2) ktd⟩
        · rw [List.length_append, hlen]
          omega
        · intro r hr'
          rcases List.mem_append.mp hr' with h | h
          · exact husz r h
          · obtain ⟨j, hj, rfl⟩ := List.mem_map.mp h
            have hs := rz_plus hg (rz_onesrow (g := g) (m := m) (k := j) hg) hn1
            refine ⟨hs.1, fun a ha => ?_⟩
            have := (hs.2 a ha).wide 2520
            rw [show (1 : Int) * 2520 = 2520 from rfl] at this
            exact this.mono (by decide)
        · intro i hi
          obtain ⟨r, h7, h8⟩ := hu1' i hi
          exact ⟨r, List.mem_append_left _ h7, h8⟩
        · intro j l hjl hl
          by_cases e : l = k
          · subst e
            refine ⟨_, List.mem_append_right _ (List.mem_map.mpr ⟨j, List.mem_range.mpr hjl, rfl⟩), ?_⟩
            rw [er_plus hg (rz_onesrow (g := g) (m := m) (k := j) hg) hn1, er_onesrow (show j < m by omega), er_onesrow hkm]
          · obtain ⟨r, h7, h8⟩ := hu2' j l hjl (by omega)
            exact ⟨r, List.mem_append_left _ h7, h8⟩
    case fin =>
      obtain ⟨⟨y7, y8, y9, rfl⟩, kt, mv, hbi, ss, us, hS, hsa, husl, husz, hu1', hu2'⟩ := hP
      have hx6 : TabV H' (.ref px) t := TabV.kt hx ((Kt.of s1).trans (kt16.trans kt))
      have hsl : ss.length ≤ 31 := by
        rw [hsa.1]
        omega
      walk_at "go"
      refine ⟨S, rfl, ⟨_, SqL.of hS⟩, fun D hD => ?_⟩
      refine lc_list (xs := ss) (fun j H'' => Same H' H'' ∧ ∃ (zs : List V) (gs : List (List (Int × Int))), H'' D = some (.lst zs) ∧ Acc RowV H'' zs gs gs.length ∧ gs.length ≤ j ∧ (∀ r ∈ gs, r ∈ us ∧ bil (t.map (er W)) m (er W r) (er W r) ≠ 0) ∧ ∀ r ∈ us.take j, bil (t.map (er W)) m (er W r) (er W r) ≠ 0 → gs ≠ []) ⟨Same.updD (Same.refl H') hD, [], [], upd_same, Acc.nil, Nat.le_refl _, fun r hr' => (by cases hr'), fun r hr' => by simp at hr'⟩ (fun j H'' _ hP => SqL.of (hP.1 _ _ hS)) (fun j y H'' hyj hP => ?_) (fun H'' hP => ?_)
      · obtain ⟨sm, zs, gs, hD', hz, hgl, hgs, hne⟩ := hP
        have hj : j < us.length := by
          have := (List.getElem?_eq_some_iff.mp hyj).1
          rw [hsa.1] at this
          exact this
        have gu : us[j]? = some us[j] := List.getElem?_eq_getElem hj
        have hyr := RowV.kt (hsa.2 j y _ hyj gu) (Kt.of sm)
        have hrz := husz _ (List.getElem_mem hj)
        walk_at "go"
        refine ⟨rfl, ?_⟩
        walk_at "go"
        refine ⟨g, .ref px, y, t, us[j], m, 2520, 2520, 16128000000000, 161280, 130, F', R, W, rfl, hg, TabV.kt hx6 (Kt.of sm), hyr, htl, hm1, by omega, hf.row, hrz, by decide, by decide, by decide, by decide, by decide, hb1, hb2, by decide, by decide, fun v3 H3 w s3' h3' tw ew => ?_⟩
        have tnw := tw.tn hg (k := 130) (by decide) (by decide) (by decide) (by omega)
        walk_at "go"
        refine w_new (by simp) fun o4 H4 ho4 s4' h4' => ?_
        refine w_neNum (b := (0, 1)) (h3'.kt (Kt.of s4')) ⟨o4, rfl, h4'⟩ ?_
        have s34 := s3'.trans s4'
        by_cases e : w = (0, 1)
        · rw [decide_eq_true e, Bool.not_true]
          walk_at "go"
          refine ⟨sm.trans s34, zs, gs, s34 _ _ hD', hz.mono fun x a h => RowV.kt h (Kt.of s34), by omega, hgs, fun r hr' hb' => ?_⟩
          rw [List.take_add_one, gu] at hr'
          rcases List.mem_append.mp hr' with h | h
          · exact hne r h hb'
          · have er' : r = us[j] := List.mem_singleton.mp h
            refine absurd ?_ hb'
            rw [er', ← ew, e, W.zero]
        · rw [decide_eq_false e, Bool.not_false]
          walk_at "go"
          have h4D := s34 _ _ hD'
          have ktc : Kt H'' (upd H4 D (.lst (zs ++ [y]))) := (Kt.of s34).trans (Kt.updL h4D)
          refine ⟨zs, h4D, small1000 (by rw [hz.1]; omega), Same.updD (sm.trans s34) hD, _, gs ++ [us[j]], upd_same, acc_cat (hz.mono fun x a h => RowV.kt h ktc) (acc_one (RowV.kt hyr ktc)), by rw [List.length_append]; show gs.length + 1 ≤ j + 1; omega, fun r hr' => ?_, fun r _ _ => by simp⟩
          rcases List.mem_append.mp hr' with h | h
          · exact hgs r h
          · rw [List.mem_singleton.mp h]
            refine ⟨List.getElem_mem hj, ?_⟩
            rw [← ew]
            exact fun z => e (tnw.zero.mp ((e_zero hg tnw).mp z))
      · obtain ⟨sm, zs, gs, hD', hz, hgl, hgs, hne⟩ := hP
        rw [List.take_of_length_le (by rw [hsa.1]; exact Nat.le_refl _)] at hne
        have hgne : gs ≠ [] := fun e0 => by
          refine some_worth (by rw [List.length_map]; exact htl) hm1 hf.sym hf.det (two_ne hg W) (fun i hi => ?_) (fun j l hjl hl => ?_)
          · obtain ⟨r, h7, h8⟩ := hu1' i hi
            rw [← h8]
            exact Classical.byContradiction fun z => hne r h7 z e0
          · obtain ⟨r, h7, h8⟩ := hu2' j l hjl (by omega)
            rw [← h8]
            exact Classical.byContradiction fun z => hne r h7 z e0
        have hgp : 0 < gs.length := List.length_pos_iff.mpr hgne
        have gz : zs[0]? = some (zs[0]'(by rw [hz.1]; exact hgp)) := List.getElem?_eq_getElem _
        have gg : gs[0]? = some (gs[0]'hgp) := List.getElem?_eq_getElem _
        obtain ⟨h7, h8⟩ := hgs _ (List.mem_of_getElem? gg)
        walk_at "go"
        refine w_ixL hD' (atI_nat (j := 0) gz) ?_
        exact q _ _ _ (hz.2 0 _ _ gz gg) (husz _ h7) h8 (mv.trans (Mv.same sm)) (hbi.same sm)
theorem ok_exchanged {f : Addr} {fd : FuncData} (F : FnP K "exchanged" s_exchanged f fd)
    {f_want_list_of_rows : Addr} {fd_want_list_of_rows : FuncData} (F_want_list_of_rows : FnP K "want_list_of_rows" s_want_list_of_rows f_want_list_of_rows fd_want_list_of_rows) (b_want_list_of_rows : Binds K fd_want_list_of_rows ["form", "thing"] []) (g_want_list_of_rows : mg "want_list_of_rows" = some (.ref f_want_list_of_rows)) (G_want_list_of_rows : FnOk P w K mg base CX0 5 f_want_list_of_rows fd_want_list_of_rows ["form", "thing"] (sp_want_list_of_rows K))
    {f_want_worths : Addr} {fd_want_worths : FuncData} (F_want_worths : FnP K "want_worths" s_want_worths f_want_worths fd_want_worths) (b_want_worths : Binds K fd_want_worths ["form", "rows"] []) (g_want_worths : mg "want_worths" = some (.ref f_want_worths)) (G_want_worths : FnOk P w K mg base CX0 7 f_want_worths fd_want_worths ["form", "rows"] (sp_want_worths K))
    {f_is_whole : Addr} {fd_is_whole : FuncData} (F_is_whole : FnP K "is_whole" s_is_whole f_is_whole fd_is_whole) (b_is_whole : Binds K fd_is_whole ["thing"] []) (g_is_whole : mg "is_whole" = some (.ref f_is_whole)) (G_is_whole : FnOk P w K mg base CX0 1 f_is_whole fd_is_whole ["thing"] (sp_is_whole K))
    {f_mirror : Addr} {fd_mirror : FuncData} (F_mirror : FnP K "mirror" s_mirror f_mirror fd_mirror) (b_mirror : Binds K fd_mirror ["form", "row"] []) (g_mirror : mg "mirror" = some (.ref f_mirror)) (G_mirror : FnOk P w K mg base CX0 8 f_mirror fd_mirror ["form", "row"] (sp_mirror K))
    {f_Keeper_of : Addr} {fd_Keeper_of : FuncData} (F_Keeper_of : FunD K "of" "Keeper.of" (defArgs s_Keeper_of) (defBody s_Keeper_of) (defScope s_Keeper_of) [] [] f_Keeper_of fd_Keeper_of) (M_Keeper_of : Meth K (He.ga K "Keeper") "of" f_Keeper_of) (b_Keeper_of : Binds K fd_Keeper_of ["self", "row"] []) (G_Keeper_of : FnOk P w K mg base CX0 6 f_Keeper_of fd_Keeper_of ["self", "row"] (sp_Keeper_of K)) (CF : FormC K) (CK : KeeperC K) (m_len : mg "len" = none) :
    FnOk P w K mg base CX0 9 f fd ["form", "rows", "place"] (sp_exchanged K) := by
  refine F.ok sc_exchanged (fun vs H Q E h => ?_) (fun cdv A outer s H vs Q E hr h => ?_)
  · obtain ⟨g, f, tv, L, xs, t, rs, u, w', i, m, Dt, Dr, Mt, Mr, s, a, F', R, W, rfl, hg, hf, ht, hL, hacc, hrl, htl, hm1, hm, hsy, htz, hrs, hu, hw, hDt, hDr, bDt, bMt, bDr, bMr, hs4, hs, ha4, ha, q⟩ := h
    rfl
  · obtain ⟨g, f, tv, L, xs, t, rs, u, w', i, m, Dt, Dr, Mt, Mr, s, a, F', R, W, rfl, hg, hf, ht, hL, hacc, hrl, htl, hm1, hm, hsy, htz, hrs, hu, hw, hDt, hDr, bDt, bMt, bDr, bMr, hs4, hs, ha4, ha, q⟩ := h
    refine ⟨_, PSs.nox (pss_cons (ps_expr (pe_call G_want_list_of_rows (hr.mono (by decide)) (by rfl) g_want_list_of_rows F_want_list_of_rows.kp b_want_list_of_rows .nil pass0 (pa_cons (pv 0) (pa_cons (pv 1) pa_nil))))
        (pss_cons (ps_expr (pe_call G_want_worths (hr.mono (by decide)) (by rfl) g_want_worths F_want_worths.kp b_want_worths .nil pass0 (pa_cons (pv 0) (pa_cons (pv 1) pa_nil))))
        (pss_cons (ps_if (PW.pt (pw_or (pt_not (pt_val (pe_call G_is_whole (hr.mono (by decide)) (by rfl) g_is_whole F_is_whole.kp b_is_whole .nil pass0 (pa_cons (pv 2) pa_nil)))) (pw_or1 (pt_not (pt_chain op_le op_lt pe_int (pv 2) (pe_op op_sub (pe_callB call_len_seq (by rfl) m_len (by decide +kernel) (pa_cons (pv 1) pa_nil)) pe_int)))))) (pss_one ps_never) pss_nil)
        (pss_cons (ps_par (i := 3) (j := 4) (by rfl) sc_exchanged.nd rfl rfl (by decide) rfl rfl (pa_cons (pe_ix ix_list (pv 1) (pv 2) (fun _ _ => rfl)) (pa_cons (pe_ix ix_list (pv 1) (pe_op op_add (pv 2) pe_int) (fun _ _ => rfl)) pa_nil)) (by rfl))
        (pss_one (ps_ret (pe_op op_cat (pe_op op_cat (pe_slice sl_list (pv 1) po_none (po_some (pv 2))) (pe_lst (pa_cons (pv 4) (pa_cons (pe_meth (pe_call G_mirror hr (by rfl) g_mirror F_mirror.kp b_mirror .nil pass0 (pa_cons (pv 0) (pa_cons (pv 4) pa_nil))) CK.c M_Keeper_of G_Keeper_of (hr.mono (by decide)) b_Keeper_of .nil pass0 (pa_cons (pv 3) pa_nil)) pa_nil)))) (pe_slice sl_list (pv 1) (po_some (pe_op op_add (pv 2) pe_int)) po_none)))))))), ?_⟩
    have hm3 : m ≤ 2 ^ 3 := Nat.le_trans hm (by decide)
    have hi1 := (List.getElem?_eq_some_iff.mp hw).1
    have hxl := hacc.1
    obtain ⟨hur, _⟩ := hrs u (List.mem_of_getElem? hu)
    obtain ⟨hwr, hww⟩ := hrs w' (List.mem_of_getElem? hw)
    have gx0 : xs[i]? = some (xs[i]'(by omega)) := List.getElem?_eq_getElem _
    have gx1 : xs[i + 1]? = some (xs[i + 1]'(by omega)) := List.getElem?_eq_getElem _
    have rx0 := hacc.2 i _ _ gx0 hu
    have rx1 := hacc.2 (i + 1) _ _ gx1 hw
    walk_at "go"
    refine ⟨f, tv, g, L, xs, t, rs, m, a + 1, rfl, hf, ht, htl, by omega, hL, hacc, fun r hr' => ⟨(hrs r hr').1.1, (hrs r hr').1.tn hg (by omega) hDr (pw_lt bDr (by omega)) (pw_lt bMr (by omega))⟩, fun H1 s1 => ?_⟩
    walk_at "go"
    refine ⟨g, f, tv, L, xs, t, rs, m, Dt, Dr, Mt, Mr, 790, F', R, W, rfl, hg, hf.sm s1, TabV.kt ht (Kt.of s1), s1 _ _ hL, hacc.mono fun x a h => RowV.kt h (Kt.of s1), htl, hm1, hm, htz, hrs, hDt, hDr, pw_lt bDt (by omega), pw_lt bDr (by omega), pw_lt (pw_abs bDr bDt) (by omega), pw_lt bMt (by omega), pw_lt bMr (by omega), pw_lt (pw_mul hm3 (pw_mul bMr bMt)) (by omega), by decide, by decide, fun H2 s2 => ?_⟩
    have s12 := s1.trans s2
    have hL2 := s12 _ _ hL
    walk_at "go"
    refine ⟨.int (i : Int), rfl, .inl rfl, ?_⟩
    rw [show wholeB (.int (i : Int)) = true from rfl]
    walk_at "go"
    refine iteF ?_
    walk_at "go"
    refine w_ite (fun h1 => ?_) (fun h1 => absurd (show (0 : Int) ≤ (i : Int) by omega) h1)
    walk_at "go"
    refine ⟨L, xs, rfl, .inl (SqL.of hL2), ?_⟩
    walk_at "go"
    refine w_iteN (fun h2 => absurd ?_ h2) (fun h2 => ?_)
    · omega
    walk_at "go"
    refine w_ixL hL2 (atI_nat gx0) ?_
    walk_at "go"
    refine w_ixL hL2 (show atI xs ((i : Int) + 1) = _ by rw [show (i : Int) + 1 = ((i + 1 : Nat) : Int) by omega]; exact atI_nat gx1) ?_
    walk_at "go"
    refine w_slL hL2 fun q3 H3 hq3 s3 h3 => ?_
    rw [cut_take] at h3
    have s13 := s12.trans s3
    walk_at "go"
    refine ⟨g, f, tv, _, t, w', m, Dt, Dr, Mt, Mr, s, a, F', R, W, rfl, hg, hf.sm s13, TabV.kt ht (Kt.of s13), RowV.kt rx1 (Kt.of s13), htl, hm1, hm, hsy, htz, hwr, hDt, hDr, bDt, bMt, bDr, bMr, hs4, hs, ha4, ha, hww, fun x kv T D H4 s4 hkv hT htab hD0 hDb hTz hok => ?_⟩
    have s14 := s13.trans s4
    have hkv' := hkv
    obtain ⟨px, dxx, ex, hpx⟩ := hkv
    cases ex
    walk_at "go"
    refine ⟨x, dxx, _, rfl, hpx, rfl, ?_⟩
    walk_at "go"
    refine ⟨g, .ref x, f, tv, kv, _, t, T, u, m, D, Dr, 2 ^ (12 + 2 * a + s), Mr, 790, F', R, W, rfl, hg, hkv', hf.sm s14, TabV.kt ht (Kt.of s14), hT, RowV.kt rx0 (Kt.of s14), htl, hm1, hm, htab.1, hTz, hur, hD0, hDr, pw_lt hDb (by omega), pw_lt bDr (by omega), Nat.pow_lt_pow_right (by decide) (by omega), pw_lt bMr (by omega), by decide, by decide, fun v5 H5 w5 s5 h5 hz5 e5 => ?_⟩
    have s15 := s14.trans s5
    walk_at "go"
    refine w_new (by simp) fun q6 H6 hq6 s6 h6 => ?_
    have h36 := (s4.trans (s5.trans s6)) _ _ h3
    refine w_cat h36 h6 (by rw [List.length_take]; simp; omega) ?_
    refine w_newO fun q7 H7 hq7 s7 h7 => ?_
    have s17 := s15.trans (s6.trans s7)
    walk_at "go"
    refine w_slL (s17 _ _ hL) fun q8 H8 hq8 s8 h8 => ?_
    rw [show ((i : Int) + 2) = ((i + 2 : Nat) : Int) by omega, cut_drop] at h8
    refine w_cat (s8 _ _ h7) h8 (by rw [List.length_append, List.length_take, List.length_drop]; simp; omega) ?_
    refine w_newO fun q9 H9 hq9 s9 h9 => ?_
    have s19 := s17.trans (s8.trans s9)
    have s59 : Same H5 H9 := s6.trans (s7.trans (s8.trans s9))
    refine q H9 q9 _ w5 D s19 ((s17.trans s8).free hq9) h9 ?_ hz5 hD0 hDb ?_
    · have a1 := acc_take (k := i) (hacc.mono fun x a h => RowV.kt h (Kt.of s19)) rfl
      have a2 := acc_cat (acc_one (RowV.kt rx1 (Kt.of s19))) (acc_one (RowV.kt h5 (Kt.of s59)))
      have a3 := acc_drop (k := i + 2) (hacc.mono fun x a h => RowV.kt h (Kt.of s19)) rfl
      exact acc_cat (acc_cat a1 a2) a3
    · rw [e5]
      exact htab.thr (mir_lin W _ _ _) (er_sup hur.1)
theorem ok__law_made {f : Addr} {fd : FuncData} (F : FnP K "_law_made" s__law_made f fd)
    {f__law_ones : Addr} {fd__law_ones : FuncData} (F__law_ones : FnP K "_law_ones" s__law_ones f__law_ones fd__law_ones) (b__law_ones : Binds K fd__law_ones ["_law_many"] []) (g__law_ones : mg "_law_ones" = some (.ref f__law_ones)) (G__law_ones : FnOk P w K mg base CX0 1 f__law_ones fd__law_ones ["_law_many"] (sp__law_ones K))
    {f__law_product : Addr} {fd__law_product : FuncData} (F__law_product : FnP K "_law_product" s__law_product f__law_product fd__law_product) (b__law_product : Binds K fd__law_product ["_law_g", "_law_one", "_law_other"] []) (g__law_product : mg "_law_product" = some (.ref f__law_product)) (G__law_product : FnOk P w K mg base CX0 6 f__law_product fd__law_product ["_law_g", "_law_one", "_law_other"] (sp__law_product K))
    {f__law_mirror : Addr} {fd__law_mirror : FuncData} (F__law_mirror : FnP K "_law_mirror" s__law_mirror f__law_mirror fd__law_mirror) (b__law_mirror : Binds K fd__law_mirror ["_law_g", "_law_table", "_law_row_here"] []) (g__law_mirror : mg "_law_mirror" = some (.ref f__law_mirror)) (G__law_mirror : FnOk P w K mg base CX0 8 f__law_mirror fd__law_mirror ["_law_g", "_law_table", "_law_row_here"] (sp__law_mirror K)) (m_len : mg "len" = none) :
    FnOk P w K mg base CX0 9 f fd ["_law_g", "_law_table", "_law_rows"] (sp__law_made K) := by
  refine F.ok sc__law_made (fun vs H Q E h => ?_) (fun cdv A outer s H vs Q E hr h => ?_)
  · obtain ⟨g, x, L, xs, t, rs, Es, m, Dt, Mt, dt, et, F', R, W, rfl, hg, hx, hL, hacc, hm1, hm, htl, ht, hDt0, bDt, bMt, hEl, hms, hE, q⟩ := h
    rfl
  · obtain ⟨g, x, L, xs, t, rs, Es, m, Dt, Mt, dt, et, F', R, W, rfl, hg, hx, hL, hacc, hm1, hm, htl, ht, hDt0, bDt, bMt, hEl, hms, hE, q⟩ := h
    refine ⟨_, PSs.nox (pss_cons (ps_set (i := 3) sc__law_made.nd rfl (.inl rfl) (pe_call G__law_ones (hr.mono (by decide)) (by rfl) g__law_ones F__law_ones.kp b__law_ones .nil pass0 (pa_cons (pe_callB call_len_seq (by rfl) m_len (by decide +kernel) (pa_cons (pv 1) pa_nil)) pa_nil)))
        (pss_cons (ps_for PassesOwn.never rfl (pi_list (pv 2)) (pg_name (i := 4) sc__law_made.nd rfl (.inl rfl)) (pss_one (ps_set (i := 3) sc__law_made.nd rfl (.inl rfl) (pe_call G__law_product (hr.mono (by decide)) (by rfl) g__law_product F__law_product.kp b__law_product .nil pass0 (pa_cons (pv 0) (pa_cons (pv 3) (pa_cons (pe_call G__law_mirror hr (by rfl) g__law_mirror F__law_mirror.kp b__law_mirror .nil pass0 (pa_cons (pv 0) (pa_cons (pv 1) (pa_cons (pv 4) pa_nil)))) pa_nil)))))))
        (pss_one (ps_ret (pv 3))))), ?_⟩
    obtain ⟨px, xx, ex, hpx, hlx, _⟩ := sqv_acc hx
    subst ex
    walk_at "go"
    refine ⟨px, xx, rfl, .inr (SqT.of hpx), ?_⟩
    walk_at "go"
    refine ⟨m, by rw [hlx, htl]; rfl, by omega, fun v1 H1 s1 h1 => ?_⟩
    have hol : (onesF m).length = m := by unfold onesF; rw [List.length_map, List.length_range]
    walk_at "go"
    refine ⟨L, rfl, ⟨xs, SqL.of (s1 _ _ hL)⟩, ?_⟩
    refine for_list (xs := xs) (fun i σ H' => ∃ (fv : V) (T : List (List (Int × Int))) (D : Int) (M : Nat), (∃ y4, σ = [some (.int g), some (.ref px), some (.ref L), some fv, y4]) ∧ Same H H' ∧ TabV H' fv T ∧ T.length = m ∧ D ≠ 0 ∧ D.natAbs ≤ 2 ^ sE (Es.take i) ∧ M ≤ 2 ^ sE (Es.take i) ∧ (∀ q ∈ T, RZ g D M m q) ∧ ∀ a, a < m → (T.map (er W)).getD a zr = mirsF W (t.map (er W)) m ((rs.take i).map (er W)) (unit a)) ⟨v1, onesF m, 1, 1, ⟨_, rfl⟩, s1, h1, hol, by decide, by exact Nat.pow_pos (by decide), Nat.pow_pos (by decide), rz_ones hg, fun a ha => by rw [er_onesF, getD_map (List.getElem?_range ha)]; rfl⟩ (fun i σ H' _ hP => ?_) (fun i y σ H' hyi hP => ?_) (fun σ H' hP => ?_)
    · obtain ⟨fv, T, D, M, _, sm, _⟩ := hP
      exact SqL.of (sm _ _ hL)
    · obtain ⟨fv, T, D, M, ⟨y4, rfl⟩, sm, hT, hTl, hD0, hDb, hMb, hTz, hTe⟩ := hP
      have hi : i < rs.length := by
        have := (List.getElem?_eq_some_iff.mp hyi).1
        have := hacc.1
        omega
      have gr : rs[i]? = some rs[i] := List.getElem?_eq_getElem hi
      have gE : Es[i]? = some (Es[i]'(by omega)) := List.getElem?_eq_getElem _
      obtain ⟨hsz, hrw, C, hC0, hCb, hCT⟩ := hms i _ _ gr gE
      have hi2 := sE_succ gE
      have hi1 := sE_le Es (i + 1)
      generalize (Es[i]'(by omega)) = EE at hCb hCT hi2
      walk_at "go"
      refine ⟨g, .ref px, y, t, rs[i], m, Dt, Mt, dt, et, F', R, W, rfl, hg, TabV.kt hx (Kt.of sm), RowV.kt (hacc.2 i y _ hyi gr) (Kt.of sm), hm1, hm, htl, ht, hDt0, bDt, bMt, hsz, hrw, fun v2 H2 T2 s2 h2 hT2 => ?_⟩
      have hT2z := hCT T2 hT2
      obtain ⟨hT2l, _, hT2e⟩ := hT2
      have hMb' : 2 ^ (EE + 2) ≤ 2 ^ (EE + 2) := Nat.le_refl _
      have hm8 := pw_five hm
      have hDD : (C * D).natAbs ≤ 2 ^ sE (Es.take (i + 1)) := pw_le (pw_abs hCb hDb) (by omega)
      have hMM : m * (2 ^ (EE + 2) * M) ≤ 2 ^ sE (Es.take (i + 1)) := pw_le (pw_mul hm8.1 (pw_mul hMb' hMb)) (by omega)
      have hMM1 : (m + 1) * (2 ^ (EE + 2) * M) ≤ 2 ^ sE (Es.take (i + 1)) := pw_le (pw_mul hm8.2 (pw_mul hMb' hMb)) (by omega)
      refine ⟨g, fv, v2, T, T2, m, m, D, C, M, 2 ^ (EE + 2), 3890, F', R, W, rfl, hg, TabV.kt hT (Kt.of s2), h2, hTz, by omega, hT2l, hm1, by omega, by omega, hT2z, hD0, hC0, pw_lt hDD (by omega), pw_lt hMb (by omega), pw_lt hMb' (by omega), pw_lt hMM1 (by omega), by decide, by decide, fun v3 H3 T3 s3 h3 hT3l hT3z hT3e => ?_⟩
      walk_at "go"
      refine ⟨v3, T3, C * D, _, ⟨_, rfl⟩, sm.trans (s2.trans s3), h3, by omega, Int.mul_ne_zero hC0 hD0, hDD, hMM, hT3z, fun a ha => ?_⟩
      have ga : T[a]? = some (T[a]'(by omega)) := List.getElem?_eq_getElem _
      have hsup : ∀ j, m ≤ j → er W (T[a]'(by omega)) j = 0 := er_sup (hTz _ (List.mem_of_getElem? ga)).1
      have e1 := hTe a ha
      rw [getD_map ga] at e1
      rw [hT3e, getD_thr (by rw [List.length_map]; omega), getD_map ga, thr_lin (by rw [List.length_map]; exact hT2l) (mir_lin W (t.map (er W)) m (er W rs[i])) hT2e hsup, e1, List.take_add_one, gr, List.map_append]
      exact (mirs_snoc W _ _ _ _ _).symm
    · obtain ⟨fv, T, D, M, ⟨y4, rfl⟩, sm, hT, hTl, hD0, hDb, hMb, hTz, hTe⟩ := hP
      rw [hacc.1] at hDb hMb hTe
      rw [List.take_length] at hTe
      rw [List.take_of_length_le (by omega)] at hDb hMb
      walk_at "go"
      exact q _ _ T D M sm hT hTl hD0 hDb hMb hTz hTe
theorem ok__law_mirrors {f : Addr} {fd : FuncData} (F : FnP K "_law_mirrors" s__law_mirrors f fd)
    {f__law_take : Addr} {fd__law_take : FuncData} (F__law_take : FnP K "_law_take" s__law_take f__law_take fd__law_take) (b__law_take : Binds K fd__law_take ["_law_bag_here", "_law_many"] []) (g__law_take : mg "_law_take" = some (.ref f__law_take)) (G__law_take : FnOk P w K mg base CX0 1 f__law_take fd__law_take ["_law_bag_here", "_law_many"] (sp__law_take K))
    {f__law_with_worth : Addr} {fd__law_with_worth : FuncData} (F__law_with_worth : FnP K "_law_with_worth" s__law_with_worth f__law_with_worth fd__law_with_worth) (b__law_with_worth : Binds K fd__law_with_worth ["_law_bag_here", "_law_g", "_law_table"] []) (g__law_with_worth : mg "_law_with_worth" = some (.ref f__law_with_worth)) (G__law_with_worth : FnOk P w K mg base CX0 8 f__law_with_worth fd__law_with_worth ["_law_bag_here", "_law_g", "_law_table"] (sp__law_with_worth K)) (m_range : mg "range" = none) (m_len : mg "len" = none) :
    FnOk P w K mg base CX0 9 f fd ["_law_bag_here", "_law_g", "_law_table", "_law_most"] (sp__law_mirrors K) := by
  refine F.ok sc__law_mirrors (fun vs H Q E h => ?_) (fun cdv A outer s H vs Q E hr h => ?_)
  · obtain ⟨b, g, x, t, m, most, F', R, W, rfl, hgr, hb, hx, hf, hm1, hm, hmost, q⟩ := h
    rfl
  · obtain ⟨b, g, x, t, m, most, F', R, W, rfl, hgr, hb, hx, hf, hm1, hm, hmost, q⟩ := h
    refine ⟨_, PSs.nox (pss_cons (ps_set (i := 4) sc__law_mirrors.nd rfl (.inl rfl) (pe_lst pa_nil))
        (pss_cons (ps_for PassesOwn.never rfl (pi_range1 (by rfl) m_range (pa_cons (pe_call G__law_take (hr.mono (by decide)) (by rfl) g__law_take F__law_take.kp b__law_take .nil pass0 (pa_cons (pv 0) (pa_cons (pe_op op_add (pv 3) pe_int) pa_nil))) pa_nil)) (pg_name (i := 5) sc__law_mirrors.nd rfl (.inl rfl)) (pss_one (ps_if (PW.pt (pw_and (pt_cmpR (op_neD hr.units) (pv 4) (pe_lst pa_nil) (nomark _)) (pw_and1 (pt_cmpR op_eq (pe_call G__law_take (hr.mono (by decide)) (by rfl) g__law_take F__law_take.kp b__law_take .nil pass0 (pa_cons (pv 0) (pa_cons pe_int pa_nil))) pe_int (nomark _))))) (pss_one (ps_expr (pe_bm PySem.F.plainAttrs_list PySem.F.slot_list_append PySem.F.type_list_append mt_append (pv 4) (pa_cons (pe_ix ix_list (pv 4) (pe_call G__law_take (hr.mono (by decide)) (by rfl) g__law_take F__law_take.kp b__law_take .nil pass0 (pa_cons (pv 0) (pa_cons (pe_callB call_len_seq (by rfl) m_len (by decide +kernel) (pa_cons (pv 4) pa_nil)) pa_nil))) (fun _ _ => rfl)) pa_nil)))) (pss_one (ps_expr (pe_bm PySem.F.plainAttrs_list PySem.F.slot_list_append PySem.F.type_list_append mt_append (pv 4) (pa_cons (pe_call G__law_with_worth hr (by rfl) g__law_with_worth F__law_with_worth.kp b__law_with_worth .nil pass0 (pa_cons (pv 0) (pa_cons (pv 1) (pa_cons (pv 2) pa_nil)))) pa_nil)))))))
        (pss_one (ps_ret (pv 4))))), ?_⟩
    walk_at "go"
    refine w_new (by simp) fun L H1 hL s1 h1 => ?_
    have nL := bag_ne hb hL
    walk_at "go"
    refine ⟨b, (most : Int) + 1, rfl, by omega, by omega, hb.same s1, fun H2 dn h20 h21 m2 hb2 => ?_⟩
    walk_at "go"
    refine ⟨by omega, by omega, ?_⟩
    have m02 := (Mv.same s1).trans m2
    refine for_range (fun i σ H' => (∃ y5, σ = [some (.ref b), some (.int g), some x, some (.int (most : Int)), some (.ref L), y5]) ∧ Mv b H H' ∧ Kt H H' ∧ Bag H' b ∧ ∃ (xs : List V) (rs : List (List (Int × Int))), H' L = some (.lst xs) ∧ rs.length = i ∧ Acc RowV H' xs rs i ∧ ∀ r ∈ rs, RZ g 2520 161280 m r ∧ bil (t.map (er W)) m (er W r) (er W r) ≠ 0) ⟨⟨_, rfl⟩, m02, (Kt.of s1).trans (m2.kt (hb.same s1)), hb2, [], [], m2 _ _ nL h1, rfl, Acc.nil, fun r hr' => (by cases hr')⟩ (fun i σ H' hi hP => ?_) (fun σ H' hP => ?_)
    · obtain ⟨⟨y5, rfl⟩, mv, kt, hbi, xs, rs, hL', hrl, hra, hrz⟩ := hP
      have hxl : xs.length = i := hra.1
      have fin : ∀ (H3 : Hp) (v : V) (r : List (Int × Int)), Mv b H' H3 → Bag H3 b → Kt H' H3 → H3 L = some (.lst xs) → RowV H3 v r → (RZ g 2520 161280 m r ∧ bil (t.map (er W)) m (er W r) (er W r) ≠ 0) → Mv b H (upd H3 L (.lst (xs ++ [v]))) ∧ Kt H (upd H3 L (.lst (xs ++ [v]))) ∧ Bag (upd H3 L (.lst (xs ++ [v]))) b ∧ ∃ (xs' : List V) (rs' : List (List (Int × Int))), (upd H3 L (.lst (xs ++ [v]))) L = some (.lst xs') ∧ rs'.length = i + 1 ∧ Acc RowV (upd H3 L (.lst (xs ++ [v]))) xs' rs' (i + 1) ∧ ∀ r ∈ rs', RZ g 2520 161280 m r ∧ bil (t.map (er W)) m (er W r) (er W r) ≠ 0 := fun H3 v r m3 hb3 kt3 hL3 hv hr' => by
        have ktc : Kt H' (upd H3 L (.lst (xs ++ [v]))) := kt3.trans (Kt.updL hL3)
        refine ⟨(mv.trans m3).updD hL, kt.trans ktc, hb3.upd nL, _, rs ++ [r], upd_same, by rw [List.length_append, hrl]; rfl, acc_app (hra.mono fun x a h => RowV.kt h ktc) hrl (RowV.kt hv (Kt.updL hL3)), fun q' hq' => ?_⟩
        rcases List.mem_append.mp hq' with h | h
        · exact hrz q' h
        · rw [List.mem_singleton.mp h]
          exact hr'
      have other : ∀ (H3 : Hp), Mv b H' H3 → Bag H3 b → Kt H' H3 → H3 L = some (.lst xs) → True := fun _ _ _ _ _ => trivial
      clear other
      walk_at "go"
      refine w_new (by simp) fun u3 H3 hu3 s3 h3 => ?_
      walk_at "go"
      refine w_neNil (s3 _ _ hL') h3 (fun y h => by
        obtain ⟨j, hj⟩ := List.getElem?_of_mem h
        have hjl := (List.getElem?_eq_some_iff.mp hj).1
        exact RowV.dat (RowV.kt (hra.2 j y _ hj (List.getElem?_eq_getElem (by omega))) (Kt.of s3))) (by decide) ?_
      walk_at "go"
      refine w_iteN (fun hne => ?_) (fun hne => ?_)
      · walk_at "go"
        refine ⟨b, 8, rfl, by decide, by decide, hbi.same s3, fun H4 d4 h40 h41 m4 hb4 => ?_⟩
        have kt34 : Kt H' H4 := (Kt.of s3).trans (m4.kt (hbi.same s3))
        have hL4 := m4 _ _ nL (s3 _ _ hL')
        have m34 := (Mv.same (b := b) s3).trans m4
        walk_at "go"
        refine w_ite (fun hc => ?_) (fun hc => ?_)
        · walk_at "go"
          refine ⟨.inl ⟨rfl, _, SqL.of hL4⟩, ?_⟩
          walk_at "go"
          refine ⟨L, xs, rfl, .inl (SqL.of hL4), ?_⟩
          have hxp : 0 < xs.length := List.length_pos_iff.mpr hne
          walk_at "go"
          refine ⟨b, xs.length, rfl, by omega, by omega, hb4, fun H5 d5 h50 h51 m5 hb5 => ?_⟩
          have hL5 := m5 _ _ nL hL4
          obtain ⟨x1, hx1⟩ : ∃ x1, xs[d5.toNat]? = some x1 := ⟨_, List.getElem?_eq_getElem (by omega)⟩
          have e1 : atI xs d5 = some x1 := by
            have := atI_nat hx1
            rw [show ((d5.toNat : Nat) : Int) = d5 by omega] at this
            exact this
          have gr : rs[d5.toNat]? = some (rs[d5.toNat]'(by omega)) := List.getElem?_eq_getElem _
          refine w_ixL hL5 e1 ?_
          walk_at "go"
          refine w_append hL5 (by omega) ?_
          have kt5 := kt34.trans (m5.kt hb4)
          exact ⟨⟨_, rfl⟩, fin _ _ _ (m34.trans m5) hb5 kt5 hL5 (RowV.kt (hra.2 _ x1 _ hx1 gr) kt5) (hrz _ (List.mem_of_getElem? gr))⟩
        · walk_at "go"
          refine ⟨.inl ⟨rfl, _, SqL.of hL4⟩, ?_⟩
          walk_at "go"
          refine ⟨b, g, x, t, m, F', R, W, rfl, hgr, hb4, TabV.kt hx (kt.trans kt34), hf, hm1, hm, fun H5 v5 r5 h5 hr5 hw5 m5 hb5 => ?_⟩
          walk_at "go"
          have hL5 := m5 _ _ nL hL4
          refine w_append hL5 (by omega) ?_
          exact ⟨⟨_, rfl⟩, fin _ _ _ (m34.trans m5) hb5 (kt34.trans (m5.kt hb4)) hL5 h5 ⟨hr5, hw5⟩⟩
      · walk_at "go"
        have hL4 := s3 _ _ hL'
        refine ⟨.inl ⟨rfl, _, SqL.of hL4⟩, ?_⟩
        walk_at "go"
        refine ⟨b, g, x, t, m, F', R, W, rfl, hgr, hbi.same s3, TabV.kt hx (kt.trans (Kt.of s3)), hf, hm1, hm, fun H5 v5 r5 h5 hr5 hw5 m5 hb5 => ?_⟩
        walk_at "go"
        have hL5 := m5 _ _ nL hL4
        refine w_append hL5 (by omega) ?_
        exact ⟨⟨_, rfl⟩, fin _ _ _ ((Mv.same s3).trans m5) hb5 ((Kt.of s3).trans (m5.kt (hbi.same s3))) hL5 h5 ⟨hr5, hw5⟩⟩
    · obtain ⟨⟨y5, rfl⟩, mv, kt, hbi, xs, rs, hL', hrl, hra, hrz⟩ := hP
      walk_at "go"
      refine q _ L xs rs hL' (by rw [hrl]; exact hra) (by omega) hrz hL mv hbi
theorem ok__law_is_exchanged {f : Addr} {fd : FuncData} (F : FnP K "_law_is_exchanged" s__law_is_exchanged f fd)
    {f__law_made : Addr} {fd__law_made : FuncData} (F__law_made : FnP K "_law_made" s__law_made f__law_made fd__law_made) (b__law_made : Binds K fd__law_made ["_law_g", "_law_table", "_law_rows"] []) (g__law_made : mg "_law_made" = some (.ref f__law_made)) (G__law_made : FnOk P w K mg base CX0 9 f__law_made fd__law_made ["_law_g", "_law_table", "_law_rows"] (sp__law_made K))
    {f_exchanged : Addr} {fd_exchanged : FuncData} (F_exchanged : FnP K "exchanged" s_exchanged f_exchanged fd_exchanged) (kb_exchanged_2_place : L2.KBn K fd_exchanged ["form", "rows", "place"] 2 ["place"] (fun us ws => us ++ ws) (fun us ws => us ++ ws)) (g_exchanged : mg "exchanged" = some (.ref f_exchanged)) (G_exchanged : FnOk P w K mg base CX0 9 f_exchanged fd_exchanged ["form", "rows", "place"] (sp_exchanged K))
    {f__law_through : Addr} {fd__law_through : FuncData} (F__law_through : FnP K "_law_through" s__law_through f__law_through fd__law_through) (b__law_through : Binds K fd__law_through ["_law_g", "_law_row_here", "_law_table"] []) (g__law_through : mg "_law_through" = some (.ref f__law_through)) (G__law_through : FnOk P w K mg base CX0 5 f__law_through fd__law_through ["_law_g", "_law_row_here", "_law_table"] (sp__law_through K))
    {f__law_mirror : Addr} {fd__law_mirror : FuncData} (F__law_mirror : FnP K "_law_mirror" s__law_mirror f__law_mirror fd__law_mirror) (b__law_mirror : Binds K fd__law_mirror ["_law_g", "_law_table", "_law_row_here"] []) (g__law_mirror : mg "_law_mirror" = some (.ref f__law_mirror)) (G__law_mirror : FnOk P w K mg base CX0 8 f__law_mirror fd__law_mirror ["_law_g", "_law_table", "_law_row_here"] (sp__law_mirror K)) (m_list : mg "list" = none) (m_range : mg "range" = none) (m_isinstance : mg "isinstance" = none) :
    FnOk P w K mg base CX0 10 f fd ["_law_form_here", "_law_g", "_law_table", "_law_rows", "_law_at"] (sp__law_is_exchanged K) := by
  refine F.ok sc__law_is_exchanged (fun vs H Q E h => ?_) (fun cdv A outer s H vs Q E hr h => ?_)
  · obtain ⟨f, tv, g, L, xs, t, rs, i, m, D1, M1, F', R, W, rfl, hg, hf, ht, hfm, hm1, hm, hL, hacc, hrl, hrs, hD1, bD1, bM1, hi1, q⟩ := h
    rfl
  · obtain ⟨f, tv, g, L, xs, t, rs, i, m, D1, M1, F', R, W, rfl, hg, hf, ht, hfm, hm1, hm, hL, hacc, hrl, hrs, hD1, bD1, bM1, hi1, q⟩ := h
    refine ⟨_, PSs.nox (pss_cons (ps_par (i := 5) (j := 6) (by rfl) sc__law_is_exchanged.nd rfl rfl (by decide) rfl rfl (pa_cons (pe_ix ix_list (pv 3) (pv 4) (fun _ _ => rfl)) (pa_cons (pe_ix ix_list (pv 3) (pe_op op_add (pv 4) pe_int) (fun _ _ => rfl)) pa_nil)) (by rfl))
        (pss_cons (ps_set (i := 7) sc__law_is_exchanged.nd rfl (.inl rfl) (pe_op op_cat (pe_op op_cat (pe_slice sl_list (pv 3) po_none (po_some (pv 4))) (pe_lst (pa_cons (pv 6) (pa_cons (pe_call G__law_through (hr.mono (by decide)) (by rfl) g__law_through F__law_through.kp b__law_through .nil pass0 (pa_cons (pv 1) (pa_cons (pv 5) (pa_cons (pe_call G__law_mirror (hr.mono (by decide)) (by rfl) g__law_mirror F__law_mirror.kp b__law_mirror .nil pass0 (pa_cons (pv 1) (pa_cons (pv 2) (pa_cons (pv 6) pa_nil)))) pa_nil)))) pa_nil)))) (pe_slice sl_list (pv 3) (po_some (pe_op op_add (pv 4) pe_int)) po_none)))
        (pss_cons (ps_set (i := 8) sc__law_is_exchanged.nd rfl (.inl rfl) (pe_callTy call_list_of (by rfl) m_list (by decide +kernel) (pa_cons (pv 3) pa_nil)))
        (pss_cons (ps_set (i := 9) sc__law_is_exchanged.nd rfl (.inl rfl) (pe_call G__law_made hr (by rfl) g__law_made F__law_made.kp b__law_made .nil pass0 (pa_cons (pv 1) (pa_cons (pv 2) (pa_cons (pv 3) pa_nil)))))
        (pss_cons (ps_for PassesOwn.never rfl (pi_range1 (by rfl) m_range (pa_cons pe_int pa_nil)) (pg_name (i := 10) sc__law_is_exchanged.nd rfl (.inl rfl)) (pss_cons (ps_set (i := 11) sc__law_is_exchanged.nd rfl (.inl rfl) (pe_callN G_exchanged hr (by rfl) g_exchanged F_exchanged.kp kb_exchanged_2_place pass0 (pa_cons (pv 0) (pa_cons (pv 8) pa_nil)) (pk_cons (pv 4) pk_nil)))
        (pss_cons (ps_if (PW.pt (pw_or (pt_not (pt_val (pe_callB call_isi (by rfl) m_isinstance (by decide +kernel) (pa_cons (pv 11) (pa_cons (pe_bltn (v := .ty "list") (by rfl) m_list (by decide +kernel) rfl) pa_nil))))) (pw_or (pt_cmpR (op_neD hr.units) (pv 11) (pv 7) (nomark _)) (pw_or1 (pt_cmpR (op_neD hr.units) (pv 8) (pv 3) (nomark _)))))) (pss_one (ps_ret pe_bl)) pss_nil)
        (pss_cons (ps_if (PW.pt (pw_and (pt_cmpR op_eq (pv 10) pe_int (nomark _)) (pw_and1 (pt_cmpR (op_neD hr.units) (pe_call G__law_made hr (by rfl) g__law_made F__law_made.kp b__law_made .nil pass0 (pa_cons (pv 1) (pa_cons (pv 2) (pa_cons (pv 11) pa_nil)))) (pv 9) (nomark _))))) (pss_one (ps_ret pe_bl)) pss_nil)
        (pss_cons (ps_expr (pe_bm0 PySem.F.plainAttrs_list PySem.F.slot_list_clear PySem.F.type_list_clear mt_clear (pv 11)))
        (pss_one (ps_if (pt_cmpR (op_neD hr.units) (pv 8) (pv 3) (nomark _)) (pss_one (ps_ret pe_bl)) pss_nil)))))))
        (pss_one (ps_ret pe_bl))))))), ?_⟩
    have ⟨hg0, hg13⟩ := grb hg
    have hm8 := pw_five hm
    have htl := hfm.len
    have hB : (t.map (er W)).length = m := by rw [List.length_map]; exact htl
    have b2520 : (2520 : Int).natAbs ≤ 2 ^ 12 := by decide
    have bMt : 16128000000000 ≤ 2 ^ 44 := by decide
    have hxl := hacc.1
    have gu : rs[i]? = some (rs[i]'(by omega)) := List.getElem?_eq_getElem _
    have gw : rs[i + 1]? = some (rs[i + 1]'(by omega)) := List.getElem?_eq_getElem _
    generalize (rs[i]'(by omega)) = u at gu
    generalize (rs[i + 1]'(by omega)) = w' at gw
    obtain ⟨hur, _⟩ := hrs u (List.mem_of_getElem? gu)
    obtain ⟨hwr, hww⟩ := hrs w' (List.mem_of_getElem? gw)
    have gx0 : xs[i]? = some (xs[i]'(by omega)) := List.getElem?_eq_getElem _
    have gx1 : xs[i + 1]? = some (xs[i + 1]'(by omega)) := List.getElem?_eq_getElem _
    have rx0 := hacc.2 i _ _ gx0 gu
    have rx1 := hacc.2 (i + 1) _ _ gx1 gw
    have hE1 : mirE 12 44 24 36 = 181 := by decide
    have hE2 : mirE 12 44 152 167 = 699 := by decide
    have hms : ∀ r ∈ rs, MirS W t m 12 44 r 181 := fun r hr' => by
      have h := MirS.of (dt := 12) (et := 44) (dr := 24) (er' := 36) hg hm htl hfm.row (hrs r hr').1 (by decide) hD1 b2520 bMt bD1 bM1 (by decide) (hrs r hr').2
      rw [hE1] at h
      exact h
    walk_at "go"
    refine w_ixL hL (atI_nat gx0) ?_
    walk_at "go"
    refine w_ixL hL (show atI xs ((i : Int) + 1) = _ by rw [show (i : Int) + 1 = ((i + 1 : Nat) : Int) by omega]; exact atI_nat gx1) ?_
    walk_at "go"
    refine w_slL hL fun q1 H1 hq1 s1 h1 => ?_
    rw [cut_take] at h1
    walk_at "go"
    refine ⟨g, tv, _, t, w', m, 2520, 16128000000000, 12, 44, F', R, W, rfl, hg, TabV.kt ht (Kt.of s1), RowV.kt rx1 (Kt.of s1), hm1, hm, htl, hfm.row, by decide, b2520, bMt, ⟨D1, M1, 24, 36, hwr, hD1, bD1, bM1, by decide⟩, hww, fun v2 H2 T2 s2 h2 hT2 => ?_⟩
    obtain ⟨_, _, C, hC0, hCb, hCT⟩ := hms w' (List.mem_of_getElem? gw)
    have hT2z := hCT T2 hT2
    have s12 := s1.trans s2
    refine ⟨g, _, v2, u, T2, m, m, D1, C, M1, 2 ^ (181 + 2), 3890, F', R, W, rfl, hg, RowV.kt rx0 (Kt.of s12), h2, hur, hT2.1, hm1, by omega, by omega, hT2z, hD1, hC0, pw_lt (pw_abs hCb bD1) (by decide), pw_lt bM1 (by decide), Nat.pow_lt_pow_right (by decide) (by decide), pw_lt (pw_mul hm8.2 (pw_mul (Nat.le_refl _) bM1)) (by decide), by decide, by decide, fun v3 H3 w3 s3 h3 hw3z hw3e => ?_⟩
    have ew3 : er W w3 = mirF W (t.map (er W)) m (er W w') (er W u) := by
      rw [hw3e]
      exact thr_lin (by rw [List.length_map]; exact hT2.1) (mir_lin W _ _ _) hT2.2.2 (er_sup hur.1)
    have s13 := s12.trans s3
    walk_at "go"
    refine w_new (by simp) fun q4 H4 hq4 s4 h4 => ?_
    have s14 := s13.trans s4
    have h14 := (s2.trans (s3.trans s4)) _ _ h1
    refine w_cat h14 h4 (by rw [List.length_take]; simp; omega) ?_
    refine w_newO fun q5 H5 hq5 s5 h5 => ?_
    have s15 := s14.trans s5
    walk_at "go"
    refine w_slL (s15 _ _ hL) fun q6 H6 hq6 s6 h6 => ?_
    rw [show ((i : Int) + 2) = ((i + 2 : Nat) : Int) by omega, cut_drop] at h6
    refine w_cat (s6 _ _ h5) h6 (by rw [List.length_append, List.length_take, List.length_drop]; simp; omega) ?_
    refine w_newO fun q7 H7 hq7 s7 h7 => ?_
    have s17 := s15.trans (s6.trans s7)
    have s37 : Same H3 H7 := s4.trans (s5.trans (s6.trans s7))
    have hdue : Acc RowV H7 (xs.take i ++ [xs[i + 1]'(by omega), v3] ++ xs.drop (i + 2)) (rs.take i ++ [w', w3] ++ rs.drop (i + 2)) (rs.take i ++ [w', w3] ++ rs.drop (i + 2)).length := by
      have a1 := acc_take (k := i) (hacc.mono fun x a h => RowV.kt h (Kt.of s17)) rfl
      have a2 := acc_cat (acc_one (RowV.kt rx1 (Kt.of s17))) (acc_one (RowV.kt h3 (Kt.of s37)))
      have a3 := acc_drop (k := i + 2) (hacc.mono fun x a h => RowV.kt h (Kt.of s17)) rfl
      exact acc_cat (acc_cat a1 a2) a3
    walk_at "go"
    have hL7 := s17 _ _ hL
    refine ⟨L, xs, rfl, .inl (SqL.of hL7), fun q8 hq8 => ?_⟩
    have s8 := same_upd (o := HO.lst xs) hq8
    have h8 : (upd H7 q8 (.lst xs)) q8 = some (.lst xs) := upd_same
    generalize upd H7 q8 (.lst xs) = H8 at s8 h8 ⊢
    have s18 := s17.trans s8
    walk_at "go"
    refine ⟨g, tv, L, xs, t, rs, rs.map fun _ => 181, m, 2520, 16128000000000, 12, 44, F', R, W, rfl, hg, TabV.kt ht (Kt.of s18), s18 _ _ hL, hacc.mono fun x a h => RowV.kt h (Kt.of s18), hm1, hm, htl, hfm.row, by decide, b2520, bMt, by rw [List.length_map], fun j r E hr' hE => ?_, by rw [sE_const]; exact Nat.le_trans (Nat.mul_le_mul_right _ hrl) (by decide), fun v9 H9 T9 D9 M9 s9 h9 hT9l hD90 hD9b hM9b hT9z hT9e => ?_⟩
    · rw [List.getElem?_map, hr'] at hE
      cases Option.some.inj hE
      exact hms r (List.mem_of_getElem? hr')
    · have s19 := s18.trans s9
      have h79 := (s8.trans s9) _ _ h7
      have h89 := s9 _ _ h8
      have hdue9 := hdue.mono fun x a h => RowV.kt h (Kt.of (s8.trans s9))
      have hacc9 := hacc.mono fun x a h => RowV.kt h (Kt.of s19)
      walk_at "go"
      refine ⟨by decide, by decide, ?_⟩
      refine for_range (fun j σ H' => (∃ y10 y11, σ = [some f, some (.int g), some tv, some (.ref L), some (.int (i : Int)), some (xs[i]'(by omega)), some (xs[i + 1]'(by omega)), some (.ref q7), some (.ref q8), some v9, y10, y11]) ∧ Same H9 H') ⟨⟨_, _, rfl⟩, Same.refl H9⟩ (fun j σ H10 hj hP => ?_) (fun σ H' hP => ?_)
      · obtain ⟨⟨y10, y11, rfl⟩, sm⟩ := hP
        have s110 := s19.trans sm
        have hL10 := s110 _ _ hL
        have h710 := sm _ _ h79
        have h810 := sm _ _ h89
        walk_at "go"
        refine ⟨rfl, rfl, g, f, tv, q8, xs, t, rs, u, w', i, m, 2520, D1, 16128000000000, M1, 44, 36, F', R, W, rfl, hg, hf.sm s110, TabV.kt ht (Kt.of s110), h810, hacc.mono fun x a h => RowV.kt h (Kt.of s110), by omega, htl, hm1, hm, hfm.sym, hfm.row, hrs, gu, gw, by decide, hD1, pw_le b2520 (by decide), bMt, pw_le bD1 (by decide), bM1, by decide, by decide, by decide, by decide, fun H11 L' ys v D s11 hL' h11 ha11 hvz hD0 hDb hve => ?_⟩
        have e128 : 12 + 2 * 36 + 44 = 128 := by decide
        rw [e128] at hvz hDb
        have s1011 := sm.trans s11
        have s111 := s110.trans s11
        have hLn : H9 L' = none := sm.free hL'
        have bM2 : m * (M1 * 2 ^ 128) ≤ 2 ^ 167 := pw_le (pw_mul hm8.1 (pw_mul bM1 (Nat.le_refl _))) (by decide)
        have bD2 : (D1 * D).natAbs ≤ 2 ^ 152 := pw_abs bD1 hDb
        have evw : v = w3 := er_injZ (V := W) hg hvz hw3z fun j _ => by rw [hve, ew3]
        subst evw
        have hvw : bil (t.map (er W)) m (er W v) (er W v) ≠ 0 := by
          rw [hve, mir_keeps W hB hfm.sym hww]
          exact (hrs u (List.mem_of_getElem? gu)).2
        walk_at "go"
        refine w_isL h11 ?_
        walk_at "go"
        refine iteF ?_
        walk_at "go"
        refine w_neRows h11 (s11 _ _ h710) ha11 (hdue9.mono fun x a h => RowV.kt h (Kt.of s1011)) ?_
        refine ⟨_, rfl, ?_⟩
        refine iteF ?_
        walk_at "go"
        refine w_neRows (s11 _ _ h810) (s111 _ _ hL) (hacc.mono fun x a h => RowV.kt h (Kt.of s111)) (hacc.mono fun x a h => RowV.kt h (Kt.of s111)) ?_
        walk_at "go"
        refine w_ite (fun hc => ?_) (fun hc => ?_)
        · walk_at "go"
          refine ⟨g, tv, L', ys, t, _, List.replicate i 181 ++ [181, 699] ++ List.replicate (rs.length - (i + 2)) 181, m, 2520, 16128000000000, 12, 44, F', R, W, rfl, hg, TabV.kt ht (Kt.of s111), h11, ha11, hm1, hm, htl, hfm.row, by decide, b2520, bMt, ?_, ?_, ?_, fun v12 H12 T12 D12 M12 s12' h12 hT12l hD120 hD12b hM12b hT12z hT12e => ?_⟩
          · simp
            omega
          · refine pw_app ?_ (pw_app ?_ (pw_rep fun a ha => hms a (List.mem_of_mem_take ha)) fun j a b ha hb => ?_) (pw_rep fun a ha => hms a (List.mem_of_mem_drop ha))
            · simp
              omega
            · rw [List.length_take, List.length_replicate]
              omega
            · match j, ha, hb with
              | 0, ha, hb => cases ha; cases hb; exact hms w' (List.mem_of_getElem? gw)
              | 1, ha, hb =>
                cases ha; cases hb
                have h := MirS.of (dt := 12) (et := 44) (dr := 152) (er' := 167) hg hm htl hfm.row hvz (by decide) (Int.mul_ne_zero hD1 hD0) b2520 bMt bD2 bM2 (by decide) hvw
                rw [hE2] at h
                exact h
              | _ + 2, ha, hb => simp at ha
          · rw [sE_app, sE_app, sE_rep, sE_rep]
            have : sE [181, 699] = 890 := rfl
            omega
          have s1112 := s1011.trans s12'
          have eT : T12 = T9 := tab_injZ hg W hT12l hT9l hT12z hT9z fun k hk => by
            rw [hT12e k hk, hT9e k hk]
            exact mirs_cut W hB hfm.sym gu gw hww hve _
          walk_at "go"
          refine w_neTab h12 (TabV.kt h9 (Kt.of s1112)) eT ?_
          have HT := s12' _ _ h11
          have SM := s1112
          walk_at "go"
          refine ⟨.inl ⟨rfl, _, SqL.of HT⟩, ?_⟩
          walk_at "go"
          refine ⟨L', ys, rfl, rfl, HT, ?_⟩
          have s13 := Same.updD (o := HO.lst []) SM hLn
          walk_at "go"
          refine w_neRows (s13 _ _ h89) (s13 _ _ (s19 _ _ hL)) (hacc9.mono fun x a h => RowV.kt h (Kt.of s13)) (hacc9.mono fun x a h => RowV.kt h (Kt.of s13)) ?_
          walk_at "go"
          exact ⟨⟨_, _, rfl⟩, s13⟩
        · have HT := h11
          have SM := s1011
          walk_at "go"
          refine ⟨.inl ⟨rfl, _, SqL.of HT⟩, ?_⟩
          walk_at "go"
          refine ⟨L', ys, rfl, rfl, HT, ?_⟩
          have s13 := Same.updD (o := HO.lst []) SM hLn
          walk_at "go"
          refine w_neRows (s13 _ _ h89) (s13 _ _ (s19 _ _ hL)) (hacc9.mono fun x a h => RowV.kt h (Kt.of s13)) (hacc9.mono fun x a h => RowV.kt h (Kt.of s13)) ?_
          walk_at "go"
          exact ⟨⟨_, _, rfl⟩, s13⟩
      · walk_at "go"
        exact q _ (s19.trans hP.2)
theorem ok_law {f : Addr} {fd : FuncData} (F : FnP K "law" s_law f fd)
    {f__law_bag : Addr} {fd__law_bag : FuncData} (F__law_bag : FnP K "_law_bag" s__law_bag f__law_bag fd__law_bag) (b__law_bag : Binds K fd__law_bag ["_law_script", "_law_at"] []) (g__law_bag : mg "_law_bag" = some (.ref f__law_bag)) (G__law_bag : FnOk P w K mg base CX0 1 f__law_bag fd__law_bag ["_law_script", "_law_at"] (sp__law_bag K))
    {f__law_ground : Addr} {fd__law_ground : FuncData} (F__law_ground : FnP K "_law_ground" s__law_ground f__law_ground fd__law_ground) (b__law_ground : Binds K fd__law_ground ["_law_bag_here"] []) (g__law_ground : mg "_law_ground" = some (.ref f__law_ground)) (G__law_ground : FnOk P w K mg base CX0 2 f__law_ground fd__law_ground ["_law_bag_here"] (sp__law_ground K))
    {f__law_form : Addr} {fd__law_form : FuncData} (F__law_form : FnP K "_law_form" s__law_form f__law_form fd__law_form) (b__law_form : Binds K fd__law_form ["_law_bag_here", "_law_g", "_law_many"] []) (g__law_form : mg "_law_form" = some (.ref f__law_form)) (G__law_form : FnOk P w K mg base CX0 8 f__law_form fd__law_form ["_law_bag_here", "_law_g", "_law_many"] (sp__law_form K))
    {f__law_letters : Addr} {fd__law_letters : FuncData} (F__law_letters : FnP K "_law_letters" s__law_letters f__law_letters fd__law_letters) (b__law_letters : Binds K fd__law_letters ["_law_bag_here", "_law_g"] []) (g__law_letters : mg "_law_letters" = some (.ref f__law_letters)) (G__law_letters : FnOk P w K mg base CX0 2 f__law_letters fd__law_letters ["_law_bag_here", "_law_g"] (sp__law_letters K))
    {f__law_mirrors : Addr} {fd__law_mirrors : FuncData} (F__law_mirrors : FnP K "_law_mirrors" s__law_mirrors f__law_mirrors fd__law_mirrors) (b__law_mirrors : Binds K fd__law_mirrors ["_law_bag_here", "_law_g", "_law_table", "_law_most"] []) (g__law_mirrors : mg "_law_mirrors" = some (.ref f__law_mirrors)) (G__law_mirrors : FnOk P w K mg base CX0 9 f__law_mirrors fd__law_mirrors ["_law_bag_here", "_law_g", "_law_table", "_law_most"] (sp__law_mirrors K))
    {f__law_take : Addr} {fd__law_take : FuncData} (F__law_take : FnP K "_law_take" s__law_take f__law_take fd__law_take) (b__law_take : Binds K fd__law_take ["_law_bag_here", "_law_many"] []) (g__law_take : mg "_law_take" = some (.ref f__law_take)) (G__law_take : FnOk P w K mg base CX0 1 f__law_take fd__law_take ["_law_bag_here", "_law_many"] (sp__law_take K))
    {f__law_scaled : Addr} {fd__law_scaled : FuncData} (F__law_scaled : FnP K "_law_scaled" s__law_scaled f__law_scaled fd__law_scaled) (b__law_scaled : Binds K fd__law_scaled ["_law_g", "_law_row_here", "_law_x"] []) (g__law_scaled : mg "_law_scaled" = some (.ref f__law_scaled)) (G__law_scaled : FnOk P w K mg base CX0 4 f__law_scaled fd__law_scaled ["_law_g", "_law_row_here", "_law_x"] (sp__law_scaled K))
    {f__law_with_worth : Addr} {fd__law_with_worth : FuncData} (F__law_with_worth : FnP K "_law_with_worth" s__law_with_worth f__law_with_worth fd__law_with_worth) (b__law_with_worth : Binds K fd__law_with_worth ["_law_bag_here", "_law_g", "_law_table"] []) (g__law_with_worth : mg "_law_with_worth" = some (.ref f__law_with_worth)) (G__law_with_worth : FnOk P w K mg base CX0 8 f__law_with_worth fd__law_with_worth ["_law_bag_here", "_law_g", "_law_table"] (sp__law_with_worth K))
    {f__law_other_than_nought : Addr} {fd__law_other_than_nought : FuncData} (F__law_other_than_nought : FnP K "_law_other_than_nought" s__law_other_than_nought f__law_other_than_nought fd__law_other_than_nought) (b__law_other_than_nought : Binds K fd__law_other_than_nought ["_law_bag_here", "_law_g"] []) (g__law_other_than_nought : mg "_law_other_than_nought" = some (.ref f__law_other_than_nought)) (G__law_other_than_nought : FnOk P w K mg base CX0 4 f__law_other_than_nought fd__law_other_than_nought ["_law_bag_here", "_law_g"] (sp__law_other_than_nought K))
    {f__law_is_exchanged : Addr} {fd__law_is_exchanged : FuncData} (F__law_is_exchanged : FnP K "_law_is_exchanged" s__law_is_exchanged f__law_is_exchanged fd__law_is_exchanged) (b__law_is_exchanged : Binds K fd__law_is_exchanged ["_law_form_here", "_law_g", "_law_table", "_law_rows", "_law_at"] []) (g__law_is_exchanged : mg "_law_is_exchanged" = some (.ref f__law_is_exchanged)) (G__law_is_exchanged : FnOk P w K mg base CX0 10 f__law_is_exchanged fd__law_is_exchanged ["_law_form_here", "_law_g", "_law_table", "_law_rows", "_law_at"] (sp__law_is_exchanged K))
    {f_Form___init__ : Addr} {fd_Form___init__ : FuncData} (F_Form___init__ : FunD K "__init__" "Form.__init__" (defArgs s_Form___init__) (defBody s_Form___init__) (defScope s_Form___init__) [.int 0] [] f_Form___init__ fd_Form___init__) (M_Form : Mk K (He.ga K "Form") f_Form___init__) (gc_Form : mg "Form" = some (.ref (He.ga K "Form"))) (kb_Form_1_ground : L2.KBn K fd_Form___init__ ["self", "table", "ground"] 2 ["ground"] (fun us ws => us ++ ws) (fun us ws => us ++ ws)) (G_Form___init__ : FnOk P w K mg base CX0 6 f_Form___init__ fd_Form___init__ ["self", "table", "ground"] (sp_Form___init__ K)) (m_range : mg "range" = none) (m_max : mg "max" = none) (m_list : mg "list" = none) (m_min : mg "min" = none) (m_all : mg "all" = none) (m_len : mg "len" = none) :
    FnOk P w K mg base CX0 11 f fd ["_law_script"] (sp_law K) := by
  refine F.ok sc_law (fun vs H Q E h => ?_) (fun cdv A outer s H vs Q E hr h => ?_)
  · obtain ⟨a, ns, rfl, hA, q⟩ := h
    rfl
  · obtain ⟨a, ns, rfl, hA, q⟩ := h
    refine ⟨_, PSs.nox (pss_cons (ps_for PassesOwn.never rfl (pi_range1 (by rfl) m_range (pa_cons (pe_callB (call_max2 rfl) (by rfl) m_max (by decide +kernel) (pa_cons pe_int (pa_cons (pe_callB (call_min2 rfl) (by rfl) m_min (by decide +kernel) (pa_cons pe_int (pa_cons (pe_callB call_len_seq (by rfl) m_len (by decide +kernel) (pa_cons (pv 0) pa_nil)) pa_nil))) pa_nil))) pa_nil)) (pg_name (i := 1) sc_law.nd rfl (.inl rfl)) (pss_cons (ps_set (i := 2) sc_law.nd rfl (.inr rfl) (pe_call G__law_bag (hr.mono (by decide)) (by rfl) g__law_bag F__law_bag.kp b__law_bag .nil pass0 (pa_cons (pv 0) (pa_cons (pv 1) pa_nil))))
        (pss_cons (ps_set (i := 3) sc_law.nd rfl (.inr rfl) (pe_call G__law_ground (hr.mono (by decide)) (by rfl) g__law_ground F__law_ground.kp b__law_ground .nil pass0 (pa_cons (pv 2) pa_nil)))
        (pss_cons (ps_set (i := 4) sc_law.nd rfl (.inr rfl) (pe_call G__law_form (hr.mono (by decide)) (by rfl) g__law_form F__law_form.kp b__law_form .nil pass0 (pa_cons (pv 2) (pa_cons (pv 3) (pa_cons (pe_call G__law_letters (hr.mono (by decide)) (by rfl) g__law_letters F__law_letters.kp b__law_letters .nil pass0 (pa_cons (pv 2) (pa_cons (pv 3) pa_nil))) pa_nil)))))
        (pss_cons (ps_set (i := 5) sc_law.nd rfl (.inr rfl) (pe_makeN M_Form G_Form___init__ (hr.mono (by decide)) (by rfl) gc_Form kb_Form_1_ground pass0 (pa_cons (pv 4) pa_nil) (pk_cons (pv 3) pk_nil)))
        (pss_cons (ps_set (i := 6) sc_law.nd rfl (.inr rfl) (pe_op op_cat (pe_lc (own := [("_law_turn", 8)]) (g := gName 8) (tt := tYes) (by rfl) sc_law.nd (pi_range1 (by rfl) m_range (pa_cons pe_int pa_nil)) (blkOk_by (own := [("_law_turn", 8)]) (N := ["_law_script", "_law_k", "_law_bag_here", "_law_g", "_law_table", "_law_form_here", "_law_rows", "_law_places", "_law_turn", "_law_at"]) (sc := defScope s_law) (by decide +kernel)) (fun _ _ _ _ _ => (pg_name (i := 8) sc_law.nd rfl (.inl rfl))) (fun _ _ _ _ _ => pts_nil) (fun _ _ _ _ _ => (pe_call G__law_with_worth (hr.mono (by decide)) (by rfl) g__law_with_worth F__law_with_worth.kp b__law_with_worth .nil pass0 (pa_cons (pv 2) (pa_cons (pv 3) (pa_cons (pv 4) pa_nil)))))) (pe_call G__law_mirrors (hr.mono (by decide)) (by rfl) g__law_mirrors F__law_mirrors.kp b__law_mirrors .nil pass0 (pa_cons (pv 2) (pa_cons (pv 3) (pa_cons (pv 4) (pa_cons pe_int pa_nil)))))))
        (C8.pss_cut (ps_if (pt_cmpR op_eq (pe_call G__law_take (hr.mono (by decide)) (by rfl) g__law_take F__law_take.kp b__law_take .nil pass0 (pa_cons (pv 2) (pa_cons pe_int pa_nil))) pe_int (nomark _)) (pss_one (ps_asg (pe_call G__law_scaled (hr.mono (by decide)) (by rfl) g__law_scaled F__law_scaled.kp b__law_scaled .nil pass0 (pa_cons (pv 3) (pa_cons (pe_ix ix_list (pv 6) pe_int (fun _ _ => rfl)) (pa_cons (pe_call G__law_other_than_nought (hr.mono (by decide)) (by rfl) g__law_other_than_nought F__law_other_than_nought.kp b__law_other_than_nought .nil pass0 (pa_cons (pv 2) (pa_cons (pv 3) pa_nil))) pa_nil)))) (pg_sub (pv 6) pe_int set_list))) pss_nil)
        (pss_cons (ps_set (i := 7) sc_law.nd rfl (.inl rfl) (pe_listRg (by rfl) (by rfl) m_list (prg_1 (by rfl) m_range (pe_op op_sub (pe_callB call_len_seq (by rfl) m_len (by decide +kernel) (pa_cons (pv 6) pa_nil)) pe_int))))
        (C8.pss_cut (ps_if (PW.pt (pw_and (pt_cmpR op_eq (pe_call G__law_take (hr.mono (by decide)) (by rfl) g__law_take F__law_take.kp b__law_take .nil pass0 (pa_cons (pv 2) (pa_cons pe_int pa_nil))) pe_int (nomark _)) (pw_and1 (pt_cmpR op_lt (pe_callB call_len_seq (by rfl) m_len (by decide +kernel) (pa_cons (pv 4) pa_nil)) pe_int (nomark _))))) (pss_cons (ps_set (i := 6) sc_law.nd rfl (.inr rfl) (pe_slice sl_list (pe_op op_rep (pv 6) pe_int) po_none (po_some pe_int)))
        (pss_one (ps_set (i := 7) sc_law.nd rfl (.inl rfl) (pe_lst (pa_cons (pe_call G__law_take (hr.mono (by decide)) (by rfl) g__law_take F__law_take.kp b__law_take .nil pass0 (pa_cons (pv 2) (pa_cons pe_int pa_nil))) pa_nil))))) pss_nil)
        (pss_one (ps_if (pt_not (pt_val (pe_callB (cr_all rfl) (by rfl) m_all (by decide +kernel) (pa_cons (pe_lc (own := [("_law_at", 9)]) (g := gName 9) (tt := tYes) (by rfl) sc_law.nd (pi_list (pv 7)) (blkOk_by (own := [("_law_at", 9)]) (N := ["_law_script", "_law_k", "_law_bag_here", "_law_g", "_law_table", "_law_form_here", "_law_rows", "_law_places", "_law_turn", "_law_at"]) (sc := defScope s_law) (by decide +kernel)) (fun _ _ _ _ _ => (pg_name (i := 9) sc_law.nd rfl (.inl rfl))) (fun _ _ _ _ _ => pts_nil) (fun _ _ _ _ _ => (pe_call G__law_is_exchanged hr (by rfl) g__law_is_exchanged F__law_is_exchanged.kp b__law_is_exchanged .nil pass0 (pa_cons (pv 5) (pa_cons (pv 3) (pa_cons (pv 4) (pa_cons (pv 6) (pa_cons (pv 9) pa_nil)))))))) pa_nil)))) (pss_one (ps_ret pe_bl)) pss_nil)))))))))))
        (pss_one (ps_ret pe_bl))), ?_⟩
    walk_at "go"
    refine ⟨a, _, rfl, .inl hA, ?_⟩
    walk_at "go"
    refine ⟨by split <;> (try split) <;> omega, by split <;> (try split) <;> omega, ?_⟩
    refine for_range (fun i σ H' => (∃ y1 y2 y3 y4 y5 y6 y7 y8 y9, σ = [some (.ref a), y1, y2, y3, y4, y5, y6, y7, y8, y9]) ∧ Same H H') ⟨⟨_, _, _, _, _, _, _, _, _, rfl⟩, Same.refl H⟩ (fun i σ Hs hi hP => ?_) (fun σ H' hP => ?_)
    · have hi6 : i < 6 := by
        revert hi
        split <;> (try split) <;> omega
      clear hi
      obtain ⟨⟨y1, y2, y3, y4, y5, y6, y7, y8, y9, rfl⟩, sm⟩ := hP
      walk_at "go"
      refine ⟨a, ns, 0 + i, rfl, sm.seq hA, by omega, by omega, fun b H2 hb0 s2 hb2 => ?_⟩
      have hb00 : H b = none := sm.free hb0
      walk_at "go"
      refine ⟨b, rfl, hb2, fun H3 g hgr m3 hb3 => ?_⟩
      have hg := hgr.two
      have ⟨hg0, hg13⟩ := hgr.bd
      obtain ⟨F', R, ⟨W⟩⟩ := gv_any hg
      have sm3 : Same H H3 := Same.mv (sm.trans s2) hb00 m3
      walk_at "go"
      refine ⟨b, g, rfl, hgr, hb3, fun H4 m hm1 hm hmw m4 hb4 => ?_⟩
      refine ⟨b, g, m, F', R, W, rfl, hgr, hb4, hm1, hm, fun H5 tv t ht hf m5 hb5 => ?_⟩
      have sm5 : Same H H5 := Same.mv (Same.mv sm3 hb00 m4) hb00 m5
      walk_at "go"
      refine ⟨rfl, rfl, form_mk (a := 44) (W := W) hg ht hf hm1 hm hmw (by decide) (by decide) (by decide) (by decide) (by decide) fun f H6 s6 h6 => ?_⟩
      have sm6 := sm5.trans s6
      have hb6 := hb5.same s6
      have ht6 := TabV.kt ht (Kt.of s6)
      walk_at "go"
      refine ⟨by decide, by decide, fun D hD => ?_⟩
      have nD := bag_ne hb6 hD
      refine lc_range (fun i H' => Mv b H6 H' ∧ Bag H' b ∧ ∃ (xs : List V) (r : List (List (Int × Int))), H' D = some (.lst xs) ∧ r.length = i ∧ Acc RowV H' xs r i ∧ ∀ a ∈ r, RwS W t m 2520 161280 a) ⟨(Mv.refl b H6).updD hD, hb6.upd nD, [], [], upd_same, rfl, Acc.nil, fun x hx => nomatch hx⟩ (fun i H' hi hP => ?_) (fun H7 hP => ?_)
      · obtain ⟨mv, hbi, xs, r, hxs, hl, hx, hz⟩ := hP
        walk_at "go"
        refine ⟨rfl, ?_⟩
        walk_at "go"
        refine ⟨b, g, tv, t, m, F', R, W, rfl, hgr, hbi, TabV.kt ht6 (mv.kt hb6), hf, hm1, hm, fun H2 v r2 hv hr2 hw2 m2 hb2 => ?_⟩
        have h2D := m2 _ _ nD hxs
        refine ⟨xs, h2D, small1000 (by rw [hx.1]; omega), (mv.trans m2).updD hD, hb2.upd nD, xs ++ [v], r ++ [r2], upd_same, by rw [List.length_append, hl]; rfl, acc_app (hx.mono fun x a h => RowV.kt (RowV.kt h (m2.kt hbi)) (Kt.updL h2D)) hl (RowV.kt hv (Kt.updL h2D)), fun x hx' => ?_⟩
        rcases List.mem_append.mp hx' with h | h
        · exact hz x h
        · rw [List.mem_singleton.mp h]
          exact ⟨hr2, hw2⟩
      · obtain ⟨mv7, hb7, xs, r, hxs, hl, hx, hz⟩ := hP
        have sm7 := Same.mv sm6 hb00 mv7
        have h7f := h6.mv mv7 hb6
        have ht7 := TabV.kt ht6 (mv7.kt hb6)
        walk_at "go"
        refine ⟨b, g, tv, t, m, 4, F', R, W, rfl, hgr, hb7, ht7, hf, hm1, hm, by decide, fun H8 L8 xs8 rs8 hL8 ha8 hl8 hz8 hn8 m8 hb8 => ?_⟩
        have sm8 := Same.mv sm7 hb00 m8
        have h8f := h7f.mv m8 hb7
        have ht8 := TabV.kt ht7 (m8.kt hb7)
        refine w_cat (m8 _ _ nD hxs) hL8 (by rw [hx.1, ha8.1]; omega) ?_
        refine w_newO fun L H9 hL s9 h9 => ?_
        have sm9 := sm8.trans s9
        have hb9 := hb8.same s9
        have nL := bag_ne hb8 hL
        have hLH := sm8.free hL
        have h9f := h8f.sm s9
        have ht9 := TabV.kt ht8 (Kt.of s9)
        have wide : ∀ {r : List (Int × Int)}, RwS W t m 2520 161280 r → RwS W t m dB mB r := fun h => ⟨(h.1.wide 2520).mono (by decide), h.2⟩
        have hR9 : RLs W t m 2520 161280 H9 L (r ++ rs8) := by
          have hx' : Acc RowV H7 xs r r.length := by rw [hl]; exact hx
          refine ⟨xs ++ xs8, h9, acc_cat (hx'.mono fun x a h => RowV.kt h ((m8.kt hb7).trans (Kt.of s9))) (ha8.mono fun x a h => RowV.kt h (Kt.of s9)), by rw [List.length_append]; omega, by rw [List.length_append]; omega, fun a ha => ?_⟩
          rcases List.mem_append.mp ha with h | h
          · exact hz a h
          · exact hz8 a h
        have hl9 : (r ++ rs8).length ≤ 6 := by rw [List.length_append]; omega
        generalize r ++ rs8 = rs at hR9 hl9
        walk_at "go"
        refine w_cut (fun σ' H' => ∃ (y7 y8 y9 : Option V) (rs : List (List (Int × Int))) (k : Int), σ' = [some (.ref a), some (.int k), some (.ref b), some (.int g), some tv, some (.ref f), some (.ref L), y7, y8, y9] ∧ Same H H' ∧ Bag H' b ∧ FormV K H' (.ref f) g tv ∧ TabV H' tv t ∧ RLs W t m dB mB H' L rs ∧ rs.length ≤ 6) ?_ (fun σ' H10 hM => ?_)
        · walk_at "go"
          refine ⟨b, 3, rfl, by decide, by decide, hb9, fun H10 d h0 h1 m10 hb10 => ?_⟩
          have sm10 := Same.mv sm9 hb00 m10
          have h10f := h9f.mv m10 hb9
          have ht10 := TabV.kt ht9 (m10.kt hb9)
          have hR10 := hR9.mv nL hb9 m10
          walk_at "go"
          refine w_ite (fun hc => ?_) (fun hc => ?_)
          · obtain ⟨xs10, hL10, ha10, hl2, hl16, hz10⟩ := hR10
            have gr0 : rs[0]? = some (rs[0]'(by omega)) := List.getElem?_eq_getElem _
            have gx0 : xs10[0]? = some (xs10[0]'(by rw [ha10.1]; omega)) := List.getElem?_eq_getElem _
            walk_at "go"
            refine w_ixL hL10 (atI_nat (j := 0) gx0) ?_
            walk_at "go"
            refine ⟨b, g, rfl, hgr, hb10, fun H11 v11 c hc hcn hct hc0 m11 hb11 => ?_⟩
            have sm11 := Same.mv sm10 hb00 m11
            have h11f := h10f.mv m11 hb10
            have k11 := m11.kt hb10
            have hr0 := hz10 _ (List.mem_of_getElem? gr0)
            have hrow := RowV.kt (ha10.2 0 _ _ gx0 gr0) k11
            have tzc := ng_tz hg hcn hct
            refine ⟨g, _, v11, _, c, rfl, hg0, hg13, hrow, hc, by rw [hr0.1.1]; omega, hr0.1.be hg (k := 20) (by decide) (by decide) (by decide) (by decide) (by decide), hct.be (by decide), fun v12 H12 s12 h12 => ?_⟩
            have rz12 := rz_times hg hr0.1 tzc
            have er12 := er_times (V := W) hg hr0.1 tzc
            have sm12 := sm11.trans s12
            have k12 := k11.trans (Kt.of s12)
            have hL12 := s12 _ _ (m11 _ _ nL hL10)
            walk_at "go"
            refine w_setL hL12 (ixN_nat (j := 1) (by rw [ha10.1]; omega)) ?_
            have ku : Kt H12 (upd H12 L (.lst (xs10.set 1 v12))) := Kt.updL hL12
            refine ⟨_, _, _, rs.set 1 ((rs[0]'(by omega)).map fun a => timesF g a c), _, rfl, Same.updD sm12 hLH, (hb11.same s12).upd nL, (h11f.sm s12).upd hL12, TabV.kt ht10 (k12.trans ku), ⟨_, upd_same, ?_, by rw [List.length_set]; exact hl2, by rw [List.length_set]; exact hl16, fun a ha => ?_⟩, by rw [List.length_set]; exact hl9⟩
            · rw [List.length_set]
              exact acc_set (ha10.mono fun x a h => RowV.kt h (k12.trans ku)) (by rw [ha10.1]; omega) (RowV.kt h12 ku)
            · rcases List.mem_or_eq_of_mem_set ha with h | h
              · exact wide (hz10 a h)
              · rw [h]
                refine ⟨rz12, ?_⟩
                rw [er12, bil_mull, bil_mulr]
                have hce : W.e c ≠ 0 := fun z => hc0 ((e_zero hg hct).mp z)
                exact fun z => hr0.2 (W.dom (W.dom z hce) hce)
          · walk_at "go"
            obtain ⟨xs10, hL10, ha10, hl2, hl16, hz10⟩ := hR10
            exact ⟨_, _, _, rs, _, rfl, sm10, hb10, h10f, ht10, ⟨xs10, hL10, ha10, hl2, hl16, fun a ha => wide (hz10 a ha)⟩, hl9⟩
        · obtain ⟨z7, z8, z9, rs, k, rfl, sm10, hb10, h10f, ht10, hR10, hl10⟩ := hM
          obtain ⟨xs10, hL10, ha10, hl2, hl16, hz10⟩ := hR10
          have hxl := ha10.1
          walk_at "go"
          refine ⟨L, xs10, rfl, .inl (SqL.of hL10), ?_⟩
          walk_at "go"
          refine ⟨RgOk.of_le (by omega) (by omega) (by omega) (by omega), fun q11 hq11 => ?_⟩
          have s11 := same_upd (o := HO.lst (rgV 0 ((xs10.length : Int) - 1))) hq11
          have h11 : (upd H10 q11 (.lst (rgV 0 ((xs10.length : Int) - 1)))) q11 = some (.lst (rgV 0 ((xs10.length : Int) - 1))) := upd_same
          generalize upd H10 q11 (.lst (rgV 0 ((xs10.length : Int) - 1))) = H11 at s11 h11 ⊢
          have ergv : rgV 0 ((xs10.length : Int) - 1) = (List.range (rs.length - 1)).map fun i : Nat => V.int (i : Int) := by
            unfold rgV
            rw [show ((xs10.length : Int) - 1 - 0).toNat = rs.length - 1 by omega]
            exact List.map_congr_left fun i _ => by rw [Int.zero_add]
          rw [ergv] at h11
          have sm11 := sm10.trans s11
          have hb11 := hb10.same s11
          have h11f := h10f.sm s11
          have ht11 := TabV.kt ht10 (Kt.of s11)
          have nq := bag_ne hb10 hq11
          walk_at "go"
          refine w_cut (fun σ' H' => ∃ (y8 y9 : Option V) (L' Lp : Addr) (rs : List (List (Int × Int))) (ps : List Nat) (k : Int), σ' = [some (.ref a), some (.int k), some (.ref b), some (.int g), some tv, some (.ref f), some (.ref L'), some (.ref Lp), y8, y9] ∧ Same H H' ∧ FormV K H' (.ref f) g tv ∧ TabV H' tv t ∧ RLs W t m dB mB H' L' rs ∧ H' Lp = some (.lst (ps.map fun i : Nat => V.int (i : Int))) ∧ ps.length ≤ 16 ∧ ∀ i ∈ ps, i + 1 < rs.length) ?_ (fun σ' H12 hM => ?_)
          · walk_at "go"
            refine ⟨b, 8, rfl, by decide, by decide, hb11, fun H12 d h0 h1 m12 hb12 => ?_⟩
            have sm12 := Same.mv sm11 hb00 m12
            have h12f := h11f.mv m12 hb11
            have ht12 := TabV.kt ht11 (m12.kt hb11)
            have h12 := m12 _ _ nq h11
            have hL12 := m12 _ _ nL (s11 _ _ hL10)
            have ha12 := ha10.mono fun x a h => RowV.kt h ((Kt.of s11).trans (m12.kt hb11))
            have stay : RLs W t m dB mB H12 L rs := ⟨xs10, hL12, ha12, hl2, hl16, hz10⟩
            have hps : ((List.range (rs.length - 1)).length ≤ 16) ∧ ∀ i ∈ List.range (rs.length - 1), i + 1 < rs.length := ⟨by rw [List.length_range]; omega, fun i hi => by have := List.mem_range.mp hi; omega⟩
            obtain ⟨pt, xt, rfl, hpt, hlt, _⟩ := id ht12
            walk_at "go"
            refine w_ite (fun hc => ?_) (fun hc => ?_)
            · walk_at "go"
              refine ⟨pt, xt, rfl, .inr (SqT.of hpt), ?_⟩
              walk_at "go"
              refine w_ite (fun hc2 => ?_) (fun hc2 => ?_)
              · walk_at "go"
                refine w_rep hL12 (by decide) (by decide) (by omega) ?_
                refine w_newO fun q13 H13 hq13 s13 h13 => ?_
                walk_at "go"
                refine w_slL h13 fun q14 H14 hq14 s14 h14 => ?_
                rw [show (16 : Int) = ((16 : Nat) : Int) from rfl, cut_take] at h14
                have s24 := s13.trans s14
                walk_at "go"
                refine ⟨b, 15, rfl, by decide, by decide, hb12.same s24, fun H15 d2 e0 e1 m15 hb15 => ?_⟩
                have k15 := m15.kt (hb12.same s24)
                have nq14 := bag_ne (hb12.same s13) hq14
                have sm15 := Same.mv (sm12.trans s24) hb00 m15
                walk_at "go"
                refine w_new (by simp) fun q16 H16 hq16 s16 h16 => ?_
                have k16 : Kt H12 H16 := (Kt.of s24).trans (k15.trans (Kt.of s16))
                have h8 : ((8 : Int)).toNat = 8 := rfl
                rw [h8] at h14
                have rl8 : (List.replicate 8 rs).flatten.length = 8 * rs.length := rep_len rs 8
                have hR : RLs W t m dB mB H16 q14 ((List.replicate 8 rs).flatten.take 16) := by
                  refine ⟨_, s16 _ _ (m15 _ _ nq14 h14), acc_take (rep8 (ha12.mono fun x a h => RowV.kt h k16) 8) rfl, by rw [List.length_take]; omega, by rw [List.length_take]; omega, fun r hr' => hz10 r (rep_mem (List.mem_of_mem_take hr'))⟩
                refine ⟨_, _, q14, q16, _, [d2.toNat], _, rfl, sm15.trans s16, ((h12f.sm s24).mv m15 (hb12.same s24)).sm s16, TabV.kt ht12 k16, hR, ?_, by simp, fun j hj => ?_⟩
                · show _ = some (HO.lst [V.int ((d2.toNat : Nat) : Int)])
                  rw [show ((d2.toNat : Nat) : Int) = d2 by omega]
                  exact h16
                · rw [List.mem_singleton.mp hj, List.length_take]
                  omega
              · walk_at "go"
                exact ⟨_, _, L, q11, rs, List.range (rs.length - 1), _, rfl, sm12, h12f, ht12, stay, h12, hps.1, hps.2⟩
            · walk_at "go"
              exact ⟨_, _, L, q11, rs, List.range (rs.length - 1), _, rfl, sm12, h12f, ht12, stay, h12, hps.1, hps.2⟩
          · obtain ⟨z8, z9, L', Lp, rs, ps, k2, rfl, sm12, h12f, ht12, ⟨xs12, hL12, ha12, hl2', hl16', hz12⟩, hLp, hpl, hps⟩ := hM
            walk_at "go"
            refine ⟨Lp, rfl, ⟨_, SqL.of hLp⟩, fun D2 hD2 => ?_⟩
            refine lc_list (xs := ps.map fun i : Nat => V.int (i : Int)) (fun j H' => Same H12 H' ∧ H' D2 = some (.lst ((List.replicate j true).map V.bl))) ⟨Same.updD (Same.refl H12) hD2, upd_same⟩ (fun j H' _ hP => SqL.of (hP.1 _ _ hLp)) (fun j y H' hyj hP => ?_) (fun H' hP => ?_)
            · obtain ⟨sm2, hD2'⟩ := hP
              have hj : j < ps.length := by
                have := (List.getElem?_eq_some_iff.mp hyj).1
                rw [List.length_map] at this
                exact this
              have gp : ps[j]? = some ps[j] := List.getElem?_eq_getElem hj
              rw [List.getElem?_map, gp] at hyj
              cases Option.some.inj hyj
              walk_at "go"
              refine ⟨rfl, ?_⟩
              walk_at "go"
              refine ⟨.ref f, tv, g, L', xs12, t, rs, ps[j], m, dB, mB, F', R, W, rfl, hg, h12f.sm sm2, TabV.kt ht12 (Kt.of sm2), hf, hm1, hm, sm2 _ _ hL12, ha12.mono fun x a h => RowV.kt h (Kt.of sm2), hl16', hz12, by decide, by decide, by decide, hps _ (List.getElem_mem hj), fun H3' s3' => ?_⟩
              refine ⟨_, s3' _ _ hD2', ?_, Same.updD (sm2.trans s3') hD2, ?_⟩
              · rw [List.length_map, List.length_replicate]
                exact small1000 (by omega)
              · rw [upd_same, List.replicate_succ', List.map_append]
                rfl
            · obtain ⟨sm2, hD2'⟩ := hP
              walk_at "go"
              refine ⟨D2, _, rfl, SqL.of hD2', ?_⟩
              rw [all_true]
              walk_at "go"
              refine iteF ?_
              walk_at "go"
              exact ⟨⟨_, _, _, _, _, _, _, _, _, rfl⟩, sm12.trans sm2⟩
    · obtain ⟨⟨y1, y2, y3, y4, y5, y6, y7, y8, y9, rfl⟩, sm⟩ := hP
      walk_at "go"
      exact q _

theorem facts {P : Program} {w : World} {K : PySem.W.Frag} {h : Heap} {mg : Str → Option Value} {f : Addr} (X : K.In h) (G : h.Ns mainGlobals mg) (hfa : mg ("law" : Str) = some (.ref f)) (c2 : seen K = (He.valD fn, true)) :
    ∃ fd : FuncData, (∀ (s : Shared) (v : Value), BindsTo s fd ⟨[v], []⟩ [("_law_script", v)]) ∧ ∀ base : Heap, K.In base → base.Ns mainGlobals mg → FnOk P w K mg base CX0 11 f fd ["_law_script"] (sp_law K) := by
  have c : He.SaysD fa fn K := congrArg (fun z : He.AlD × Bool => z.1) c2
  have cm : more K = true := congrArg (fun z : He.AlD × Bool => z.2) c2
  have gc_Form := He.glo_ok X G (c.fact 82 (f := .glo "Form") rfl)
  have M_Form := He.mkr_ok (c.fact 84 (f := .mkr "Form") rfl)
  have CF : FormC K := ⟨He.cls_ok (c.fact 83 (f := .cls "Form") rfl), He.noat_ok (c.fact 85 (f := .noat "Form" "table") rfl), He.noat_ok (c.fact 86 (f := .noat "Form" "ground") rfl)⟩
  have gc_Keeper := He.glo_ok X G (c.fact 87 (f := .glo "Keeper") rfl)
  have M_Keeper := He.mkr_ok (c.fact 89 (f := .mkr "Keeper") rfl)
  have M_Keeper_of := He.meth_ok (c.fact 90 (f := .meth "Keeper" "of") rfl)
  have CK : KeeperC K := ⟨He.cls_ok (c.fact 88 (f := .cls "Keeper") rfl), He.noat_ok (c.fact 91 (f := .noat "Keeper" "form") rfl), He.noat_ok (c.fact 92 (f := .noat "Keeper" "table") rfl)⟩
  obtain ⟨fd_is_whole, F_is_whole⟩ := c.def_ 0 (d := d_is_whole) rfl
  have g_is_whole := He.glo_ok X G (c.fact 0 (f := .glo "is_whole") rfl)
  have b_is_whole : L2.Binds K fd_is_whole ["thing"] [] := FunD.bindsN (ps := ["thing"]) F_is_whole fun _ _ _ _ _ _ us hl => match us, hl with | [_], _ => rfl
  obtain ⟨fd_common_divisor, F_common_divisor⟩ := c.def_ 1 (d := d_common_divisor) rfl
  have g_common_divisor := He.glo_ok X G (c.fact 1 (f := .glo "common_divisor") rfl)
  have b_common_divisor : L2.Binds K fd_common_divisor ["a", "b"] [] := FunD.bindsN (ps := ["a", "b"]) F_common_divisor fun _ _ _ _ _ _ us hl => match us, hl with | [_, _], _ => rfl
  obtain ⟨fd_is_ground, F_is_ground⟩ := c.def_ 2 (d := d_is_ground) rfl
  have g_is_ground := He.glo_ok X G (c.fact 2 (f := .glo "is_ground") rfl)
  have b_is_ground : L2.Binds K fd_is_ground ["thing"] [] := FunD.bindsN (ps := ["thing"]) F_is_ground fun _ _ _ _ _ _ us hl => match us, hl with | [_], _ => rfl
  obtain ⟨fd_is_number, F_is_number⟩ := c.def_ 3 (d := d_is_number) rfl
  have g_is_number := He.glo_ok X G (c.fact 3 (f := .glo "is_number") rfl)
  have b_is_number : L2.Binds K fd_is_number ["ground", "thing"] [] := FunD.bindsN (ps := ["ground", "thing"]) F_is_number fun _ _ _ _ _ _ us hl => match us, hl with | [_, _], _ => rfl
  obtain ⟨fd_is_nought_on, F_is_nought_on⟩ := c.def_ 4 (d := d_is_nought_on) rfl
  have g_is_nought_on := He.glo_ok X G (c.fact 4 (f := .glo "is_nought_on") rfl)
  have b_is_nought_on : L2.Binds K fd_is_nought_on ["ground", "whole"] [] := FunD.bindsN (ps := ["ground", "whole"]) F_is_nought_on fun _ _ _ _ _ _ us hl => match us, hl with | [_, _], _ => rfl
  obtain ⟨fd_lowest, F_lowest⟩ := c.def_ 5 (d := d_lowest) rfl
  have g_lowest := He.glo_ok X G (c.fact 5 (f := .glo "lowest") rfl)
  have b_lowest : L2.Binds K fd_lowest ["ground", "top", "bottom"] [] := FunD.bindsN (ps := ["ground", "top", "bottom"]) F_lowest fun _ _ _ _ _ _ us hl => match us, hl with | [_, _, _], _ => rfl
  obtain ⟨fd_wheel_back, F_wheel_back⟩ := c.def_ 6 (d := d_wheel_back) rfl
  have g_wheel_back := He.glo_ok X G (c.fact 6 (f := .glo "wheel_back") rfl)
  have b_wheel_back : L2.Binds K fd_wheel_back ["wheel", "whole"] [] := FunD.bindsN (ps := ["wheel", "whole"]) F_wheel_back fun _ _ _ _ _ _ us hl => match us, hl with | [_, _], _ => rfl
  obtain ⟨fd_is_row, F_is_row⟩ := c.def_ 7 (d := d_is_row) rfl
  have g_is_row := He.glo_ok X G (c.fact 7 (f := .glo "is_row") rfl)
  have b_is_row : L2.Binds K fd_is_row ["ground", "thing", "many"] [] := FunD.bindsN (ps := ["ground", "thing", "many"]) F_is_row fun _ _ _ _ _ _ us hl => match us, hl with | [_, _, _], _ => rfl
  obtain ⟨fd_is_table, F_is_table⟩ := c.def_ 8 (d := d_is_table) rfl
  have g_is_table := He.glo_ok X G (c.fact 8 (f := .glo "is_table") rfl)
  have b_is_table : L2.Binds K fd_is_table ["ground", "thing", "high", "wide"] [] := FunD.bindsN (ps := ["ground", "thing", "high", "wide"]) F_is_table fun _ _ _ _ _ _ us hl => match us, hl with | [_, _, _, _], _ => rfl
  obtain ⟨fd_through, F_through⟩ := c.def_ 9 (d := d_through) rfl
  have g_through := He.glo_ok X G (c.fact 9 (f := .glo "through") rfl)
  have b_through : L2.Binds K fd_through ["ground", "row", "table"] [] := FunD.bindsN (ps := ["ground", "row", "table"]) F_through fun _ _ _ _ _ _ us hl => match us, hl with | [_, _, _], _ => rfl
  obtain ⟨fd_product, F_product⟩ := c.def_ 10 (d := d_product) rfl
  have g_product := He.glo_ok X G (c.fact 10 (f := .glo "product") rfl)
  have b_product : L2.Binds K fd_product ["ground", "one", "other"] [] := FunD.bindsN (ps := ["ground", "one", "other"]) F_product fun _ _ _ _ _ _ us hl => match us, hl with | [_, _, _], _ => rfl
  obtain ⟨fd_product_row, F_product_row⟩ := c.def_ 11 (d := d_product_row) rfl
  have g_product_row := He.glo_ok X G (c.fact 11 (f := .glo "product_row") rfl)
  have b_product_row : L2.Binds K fd_product_row ["ground", "row", "columns"] [] := FunD.bindsN (ps := ["ground", "row", "columns"]) F_product_row fun _ _ _ _ _ _ us hl => match us, hl with | [_, _, _], _ => rfl
  obtain ⟨fd_dot, F_dot⟩ := c.def_ 12 (d := d_dot) rfl
  have g_dot := He.glo_ok X G (c.fact 12 (f := .glo "dot") rfl)
  have b_dot : L2.Binds K fd_dot ["wholes", "others"] [] := FunD.bindsN (ps := ["wholes", "others"]) F_dot fun _ _ _ _ _ _ us hl => match us, hl with | [_, _], _ => rfl
  obtain ⟨fd_whole_row, F_whole_row⟩ := c.def_ 13 (d := d_whole_row) rfl
  have g_whole_row := He.glo_ok X G (c.fact 13 (f := .glo "whole_row") rfl)
  have b_whole_row : L2.Binds K fd_whole_row ["row"] [] := FunD.bindsN (ps := ["row"]) F_whole_row fun _ _ _ _ _ _ us hl => match us, hl with | [_], _ => rfl
  obtain ⟨fd_whole_table, F_whole_table⟩ := c.def_ 14 (d := d_whole_table) rfl
  have g_whole_table := He.glo_ok X G (c.fact 14 (f := .glo "whole_table") rfl)
  have b_whole_table : L2.Binds K fd_whole_table ["table"] [] := FunD.bindsN (ps := ["table"]) F_whole_table fun _ _ _ _ _ _ us hl => match us, hl with | [_], _ => rfl
  obtain ⟨fd_turned, F_turned⟩ := c.def_ 15 (d := d_turned) rfl
  have g_turned := He.glo_ok X G (c.fact 15 (f := .glo "turned") rfl)
  have b_turned : L2.Binds K fd_turned ["table"] [] := FunD.bindsN (ps := ["table"]) F_turned fun _ _ _ _ _ _ us hl => match us, hl with | [_], _ => rfl
  obtain ⟨fd_determinant, F_determinant⟩ := c.def_ 16 (d := d_determinant) rfl
  have g_determinant := He.glo_ok X G (c.fact 16 (f := .glo "determinant") rfl)
  have b_determinant : L2.Binds K fd_determinant ["ground", "table"] [] := FunD.bindsN (ps := ["ground", "table"]) F_determinant fun _ _ _ _ _ _ us hl => match us, hl with | [_, _], _ => rfl
  obtain ⟨fd_whole_determinant, F_whole_determinant⟩ := c.def_ 17 (d := d_whole_determinant) rfl
  have g_whole_determinant := He.glo_ok X G (c.fact 17 (f := .glo "whole_determinant") rfl)
  have b_whole_determinant : L2.Binds K fd_whole_determinant ["rows"] [] := FunD.bindsN (ps := ["rows"]) F_whole_determinant fun _ _ _ _ _ _ us hl => match us, hl with | [_], _ => rfl
  obtain ⟨fd_smaller_row, F_smaller_row⟩ := c.def_ 18 (d := d_smaller_row) rfl
  have g_smaller_row := He.glo_ok X G (c.fact 18 (f := .glo "smaller_row") rfl)
  have b_smaller_row : L2.Binds K fd_smaller_row ["row", "head", "last"] [] := FunD.bindsN (ps := ["row", "head", "last"]) F_smaller_row fun _ _ _ _ _ _ us hl => match us, hl with | [_, _, _], _ => rfl
  obtain ⟨fd_head_place, F_head_place⟩ := c.def_ 19 (d := d_head_place) rfl
  have g_head_place := He.glo_ok X G (c.fact 19 (f := .glo "head_place") rfl)
  have b_head_place : L2.Binds K fd_head_place ["rows", "begin", "at"] [] := FunD.bindsN (ps := ["rows", "begin", "at"]) F_head_place fun _ _ _ _ _ _ us hl => match us, hl with | [_, _, _], _ => rfl
  obtain ⟨fd_table_of_ones, F_table_of_ones⟩ := c.def_ 20 (d := d_table_of_ones) rfl
  have g_table_of_ones := He.glo_ok X G (c.fact 20 (f := .glo "table_of_ones") rfl)
  have b_table_of_ones : L2.Binds K fd_table_of_ones ["many"] [] := FunD.bindsN (ps := ["many"]) F_table_of_ones fun _ _ _ _ _ _ us hl => match us, hl with | [_], _ => rfl
  obtain ⟨fd_plain, F_plain⟩ := c.def_ 21 (d := d_plain) rfl
  have g_plain := He.glo_ok X G (c.fact 21 (f := .glo "plain") rfl)
  have b_plain : L2.Binds K fd_plain ["ground", "row"] [] := FunD.bindsN (ps := ["ground", "row"]) F_plain fun _ _ _ _ _ _ us hl => match us, hl with | [_, _], _ => rfl
  obtain ⟨fd_is_form_table, F_is_form_table⟩ := c.def_ 22 (d := d_is_form_table) rfl
  have g_is_form_table := He.glo_ok X G (c.fact 22 (f := .glo "is_form_table") rfl)
  have b_is_form_table : L2.Binds K fd_is_form_table ["ground", "thing"] [] := FunD.bindsN (ps := ["ground", "thing"]) F_is_form_table fun _ _ _ _ _ _ us hl => match us, hl with | [_, _], _ => rfl
  obtain ⟨fd_want_rows, F_want_rows⟩ := c.def_ 23 (d := d_want_rows) rfl
  have g_want_rows := He.glo_ok X G (c.fact 23 (f := .glo "want_rows") rfl)
  have b_want_rows : L2.Binds K fd_want_rows ["form", "things"] [] := FunD.bindsN (ps := ["form", "things"]) F_want_rows fun _ _ _ _ _ _ us hl => match us, hl with | [_, _], _ => rfl
  obtain ⟨fd_want_list_of_rows, F_want_list_of_rows⟩ := c.def_ 24 (d := d_want_list_of_rows) rfl
  have g_want_list_of_rows := He.glo_ok X G (c.fact 24 (f := .glo "want_list_of_rows") rfl)
  have b_want_list_of_rows : L2.Binds K fd_want_list_of_rows ["form", "thing"] [] := FunD.bindsN (ps := ["form", "thing"]) F_want_list_of_rows fun _ _ _ _ _ _ us hl => match us, hl with | [_, _], _ => rfl
  obtain ⟨fd_want_worths, F_want_worths⟩ := c.def_ 25 (d := d_want_worths) rfl
  have g_want_worths := He.glo_ok X G (c.fact 25 (f := .glo "want_worths") rfl)
  have b_want_worths : L2.Binds K fd_want_worths ["form", "rows"] [] := FunD.bindsN (ps := ["form", "rows"]) F_want_worths fun _ _ _ _ _ _ us hl => match us, hl with | [_, _], _ => rfl
  obtain ⟨fd_products, F_products⟩ := c.def_ 26 (d := d_products) rfl
  have g_products := He.glo_ok X G (c.fact 26 (f := .glo "products") rfl)
  have b_products : L2.Binds K fd_products ["form", "rows", "others"] [] := FunD.bindsN (ps := ["form", "rows", "others"]) F_products fun _ _ _ _ _ _ us hl => match us, hl with | [_, _, _], _ => rfl
  obtain ⟨fd_worth_of, F_worth_of⟩ := c.def_ 27 (d := d_worth_of) rfl
  have g_worth_of := He.glo_ok X G (c.fact 27 (f := .glo "worth_of") rfl)
  have b_worth_of : L2.Binds K fd_worth_of ["form", "row"] [] := FunD.bindsN (ps := ["form", "row"]) F_worth_of fun _ _ _ _ _ _ us hl => match us, hl with | [_, _], _ => rfl
  obtain ⟨fd_first_changed, F_first_changed⟩ := c.def_ 28 (d := d_first_changed) rfl
  have g_first_changed := He.glo_ok X G (c.fact 28 (f := .glo "first_changed") rfl)
  have b_first_changed : L2.Binds K fd_first_changed ["form", "table"] [] := FunD.bindsN (ps := ["form", "table"]) F_first_changed fun _ _ _ _ _ _ us hl => match us, hl with | [_, _], _ => rfl
  obtain ⟨fd_mirror, F_mirror⟩ := c.def_ 29 (d := d_mirror) rfl
  have g_mirror := He.glo_ok X G (c.fact 29 (f := .glo "mirror") rfl)
  have b_mirror : L2.Binds K fd_mirror ["form", "row"] [] := FunD.bindsN (ps := ["form", "row"]) F_mirror fun _ _ _ _ _ _ us hl => match us, hl with | [_, _], _ => rfl
  obtain ⟨fd_mirrors_table, F_mirrors_table⟩ := c.def_ 30 (d := d_mirrors_table) rfl
  have g_mirrors_table := He.glo_ok X G (c.fact 30 (f := .glo "mirrors_table") rfl)
  have b_mirrors_table : L2.Binds K fd_mirrors_table ["form", "rows"] [] := FunD.bindsN (ps := ["form", "rows"]) F_mirrors_table fun _ _ _ _ _ _ us hl => match us, hl with | [_, _], _ => rfl
  obtain ⟨fd_whole_mirrors, F_whole_mirrors⟩ := c.def_ 31 (d := d_whole_mirrors) rfl
  have g_whole_mirrors := He.glo_ok X G (c.fact 31 (f := .glo "whole_mirrors") rfl)
  have b_whole_mirrors : L2.Binds K fd_whole_mirrors ["form", "rows"] [] := FunD.bindsN (ps := ["form", "rows"]) F_whole_mirrors fun _ _ _ _ _ _ us hl => match us, hl with | [_, _], _ => rfl
  obtain ⟨fd_mirrored, F_mirrored⟩ := c.def_ 32 (d := d_mirrored) rfl
  have g_mirrored := He.glo_ok X G (c.fact 32 (f := .glo "mirrored") rfl)
  have b_mirrored : L2.Binds K fd_mirrored ["line", "by", "led", "worth"] [] := FunD.bindsN (ps := ["line", "by", "led", "worth"]) F_mirrored fun _ _ _ _ _ _ us hl => match us, hl with | [_, _, _, _], _ => rfl
  obtain ⟨fd_exchanged, F_exchanged⟩ := c.def_ 33 (d := d_exchanged) rfl
  have g_exchanged := He.glo_ok X G (c.fact 33 (f := .glo "exchanged") rfl)
  have b_exchanged : L2.Binds K fd_exchanged ["form", "rows", "place"] [] := FunD.bindsN (ps := ["form", "rows", "place"]) F_exchanged fun _ _ _ _ _ _ us hl => match us, hl with | [_, _, _], _ => rfl
  have kb_exchanged_2_place : L2.KBn K fd_exchanged ["form", "rows", "place"] 2 ["place"] (fun us ws => us ++ ws) (fun us ws => us ++ ws) := kbn0_of (ps := ["form", "rows", "place"]) F_exchanged (fun _ _ _ _ _ _ us ws l1 l2 => match us, l1, ws, l2 with | [_, _], _, [_], _ => rfl) (fun r1 r2 => r1.append r2)
  obtain ⟨fd__law_bag, F__law_bag⟩ := c.def_ 34 (d := d__law_bag) rfl
  have g__law_bag := He.glo_ok X G (c.fact 34 (f := .glo "_law_bag") rfl)
  have b__law_bag : L2.Binds K fd__law_bag ["_law_script", "_law_at"] [] := FunD.bindsN (ps := ["_law_script", "_law_at"]) F__law_bag fun _ _ _ _ _ _ us hl => match us, hl with | [_, _], _ => rfl
  obtain ⟨fd__law_take, F__law_take⟩ := c.def_ 35 (d := d__law_take) rfl
  have g__law_take := He.glo_ok X G (c.fact 35 (f := .glo "_law_take") rfl)
  have b__law_take : L2.Binds K fd__law_take ["_law_bag_here", "_law_many"] [] := FunD.bindsN (ps := ["_law_bag_here", "_law_many"]) F__law_take fun _ _ _ _ _ _ us hl => match us, hl with | [_, _], _ => rfl
  obtain ⟨fd__law_mixed, F__law_mixed⟩ := c.def_ 36 (d := d__law_mixed) rfl
  have g__law_mixed := He.glo_ok X G (c.fact 36 (f := .glo "_law_mixed") rfl)
  have b__law_mixed : L2.Binds K fd__law_mixed ["_law_bag_here", "_law_row_here"] [] := FunD.bindsN (ps := ["_law_bag_here", "_law_row_here"]) F__law_mixed fun _ _ _ _ _ _ us hl => match us, hl with | [_, _], _ => rfl
  obtain ⟨fd__law_shared, F__law_shared⟩ := c.def_ 37 (d := d__law_shared) rfl
  have g__law_shared := He.glo_ok X G (c.fact 37 (f := .glo "_law_shared") rfl)
  have b__law_shared : L2.Binds K fd__law_shared ["_law_one", "_law_other"] [] := FunD.bindsN (ps := ["_law_one", "_law_other"]) F__law_shared fun _ _ _ _ _ _ us hl => match us, hl with | [_, _], _ => rfl
  obtain ⟨fd__law_low, F__law_low⟩ := c.def_ 38 (d := d__law_low) rfl
  have g__law_low := He.glo_ok X G (c.fact 38 (f := .glo "_law_low") rfl)
  have b__law_low : L2.Binds K fd__law_low ["_law_g", "_law_up", "_law_down"] [] := FunD.bindsN (ps := ["_law_g", "_law_up", "_law_down"]) F__law_low fun _ _ _ _ _ _ us hl => match us, hl with | [_, _, _], _ => rfl
  obtain ⟨fd__law_plus, F__law_plus⟩ := c.def_ 39 (d := d__law_plus) rfl
  have g__law_plus := He.glo_ok X G (c.fact 39 (f := .glo "_law_plus") rfl)
  have b__law_plus : L2.Binds K fd__law_plus ["_law_g", "_law_x", "_law_y"] [] := FunD.bindsN (ps := ["_law_g", "_law_x", "_law_y"]) F__law_plus fun _ _ _ _ _ _ us hl => match us, hl with | [_, _, _], _ => rfl
  obtain ⟨fd__law_times, F__law_times⟩ := c.def_ 40 (d := d__law_times) rfl
  have g__law_times := He.glo_ok X G (c.fact 40 (f := .glo "_law_times") rfl)
  have b__law_times : L2.Binds K fd__law_times ["_law_g", "_law_x", "_law_y"] [] := FunD.bindsN (ps := ["_law_g", "_law_x", "_law_y"]) F__law_times fun _ _ _ _ _ _ us hl => match us, hl with | [_, _, _], _ => rfl
  obtain ⟨fd__law_minus, F__law_minus⟩ := c.def_ 41 (d := d__law_minus) rfl
  have g__law_minus := He.glo_ok X G (c.fact 41 (f := .glo "_law_minus") rfl)
  have b__law_minus : L2.Binds K fd__law_minus ["_law_g", "_law_x"] [] := FunD.bindsN (ps := ["_law_g", "_law_x"]) F__law_minus fun _ _ _ _ _ _ us hl => match us, hl with | [_, _], _ => rfl
  obtain ⟨fd__law_over, F__law_over⟩ := c.def_ 42 (d := d__law_over) rfl
  have g__law_over := He.glo_ok X G (c.fact 42 (f := .glo "_law_over") rfl)
  have b__law_over : L2.Binds K fd__law_over ["_law_g", "_law_x", "_law_y"] [] := FunD.bindsN (ps := ["_law_g", "_law_x", "_law_y"]) F__law_over fun _ _ _ _ _ _ us hl => match us, hl with | [_, _, _], _ => rfl
  obtain ⟨fd__law_sum, F__law_sum⟩ := c.def_ 43 (d := d__law_sum) rfl
  have g__law_sum := He.glo_ok X G (c.fact 43 (f := .glo "_law_sum") rfl)
  have b__law_sum : L2.Binds K fd__law_sum ["_law_g", "_law_some"] [] := FunD.bindsN (ps := ["_law_g", "_law_some"]) F__law_sum fun _ _ _ _ _ _ us hl => match us, hl with | [_, _], _ => rfl
  obtain ⟨fd__law_scaled, F__law_scaled⟩ := c.def_ 44 (d := d__law_scaled) rfl
  have g__law_scaled := He.glo_ok X G (c.fact 44 (f := .glo "_law_scaled") rfl)
  have b__law_scaled : L2.Binds K fd__law_scaled ["_law_g", "_law_row_here", "_law_x"] [] := FunD.bindsN (ps := ["_law_g", "_law_row_here", "_law_x"]) F__law_scaled fun _ _ _ _ _ _ us hl => match us, hl with | [_, _, _], _ => rfl
  obtain ⟨fd__law_added, F__law_added⟩ := c.def_ 45 (d := d__law_added) rfl
  have g__law_added := He.glo_ok X G (c.fact 45 (f := .glo "_law_added") rfl)
  have b__law_added : L2.Binds K fd__law_added ["_law_g", "_law_row_here", "_law_other"] [] := FunD.bindsN (ps := ["_law_g", "_law_row_here", "_law_other"]) F__law_added fun _ _ _ _ _ _ us hl => match us, hl with | [_, _, _], _ => rfl
  obtain ⟨fd__law_through, F__law_through⟩ := c.def_ 46 (d := d__law_through) rfl
  have g__law_through := He.glo_ok X G (c.fact 46 (f := .glo "_law_through") rfl)
  have b__law_through : L2.Binds K fd__law_through ["_law_g", "_law_row_here", "_law_table"] [] := FunD.bindsN (ps := ["_law_g", "_law_row_here", "_law_table"]) F__law_through fun _ _ _ _ _ _ us hl => match us, hl with | [_, _, _], _ => rfl
  obtain ⟨fd__law_product, F__law_product⟩ := c.def_ 47 (d := d__law_product) rfl
  have g__law_product := He.glo_ok X G (c.fact 47 (f := .glo "_law_product") rfl)
  have b__law_product : L2.Binds K fd__law_product ["_law_g", "_law_one", "_law_other"] [] := FunD.bindsN (ps := ["_law_g", "_law_one", "_law_other"]) F__law_product fun _ _ _ _ _ _ us hl => match us, hl with | [_, _, _], _ => rfl
  obtain ⟨fd__law_turned, F__law_turned⟩ := c.def_ 48 (d := d__law_turned) rfl
  have g__law_turned := He.glo_ok X G (c.fact 48 (f := .glo "_law_turned") rfl)
  have b__law_turned : L2.Binds K fd__law_turned ["_law_table"] [] := FunD.bindsN (ps := ["_law_table"]) F__law_turned fun _ _ _ _ _ _ us hl => match us, hl with | [_], _ => rfl
  obtain ⟨fd__law_ones, F__law_ones⟩ := c.def_ 49 (d := d__law_ones) rfl
  have g__law_ones := He.glo_ok X G (c.fact 49 (f := .glo "_law_ones") rfl)
  have b__law_ones : L2.Binds K fd__law_ones ["_law_many"] [] := FunD.bindsN (ps := ["_law_many"]) F__law_ones fun _ _ _ _ _ _ us hl => match us, hl with | [_], _ => rfl
  obtain ⟨fd__law_pair, F__law_pair⟩ := c.def_ 50 (d := d__law_pair) rfl
  have g__law_pair := He.glo_ok X G (c.fact 50 (f := .glo "_law_pair") rfl)
  have b__law_pair : L2.Binds K fd__law_pair ["_law_g", "_law_table", "_law_row_here", "_law_other"] [] := FunD.bindsN (ps := ["_law_g", "_law_table", "_law_row_here", "_law_other"]) F__law_pair fun _ _ _ _ _ _ us hl => match us, hl with | [_, _, _, _], _ => rfl
  obtain ⟨fd__law_worth, F__law_worth⟩ := c.def_ 51 (d := d__law_worth) rfl
  have g__law_worth := He.glo_ok X G (c.fact 51 (f := .glo "_law_worth") rfl)
  have b__law_worth : L2.Binds K fd__law_worth ["_law_g", "_law_table", "_law_row_here"] [] := FunD.bindsN (ps := ["_law_g", "_law_table", "_law_row_here"]) F__law_worth fun _ _ _ _ _ _ us hl => match us, hl with | [_, _, _], _ => rfl
  obtain ⟨fd__law_mirror, F__law_mirror⟩ := c.def_ 52 (d := d__law_mirror) rfl
  have g__law_mirror := He.glo_ok X G (c.fact 52 (f := .glo "_law_mirror") rfl)
  have b__law_mirror : L2.Binds K fd__law_mirror ["_law_g", "_law_table", "_law_row_here"] [] := FunD.bindsN (ps := ["_law_g", "_law_table", "_law_row_here"]) F__law_mirror fun _ _ _ _ _ _ us hl => match us, hl with | [_, _, _], _ => rfl
  obtain ⟨fd__law_made, F__law_made⟩ := c.def_ 53 (d := d__law_made) rfl
  have g__law_made := He.glo_ok X G (c.fact 53 (f := .glo "_law_made") rfl)
  have b__law_made : L2.Binds K fd__law_made ["_law_g", "_law_table", "_law_rows"] [] := FunD.bindsN (ps := ["_law_g", "_law_table", "_law_rows"]) F__law_made fun _ _ _ _ _ _ us hl => match us, hl with | [_, _, _], _ => rfl
  obtain ⟨fd__law_ground, F__law_ground⟩ := c.def_ 54 (d := d__law_ground) rfl
  have g__law_ground := He.glo_ok X G (c.fact 54 (f := .glo "_law_ground") rfl)
  have b__law_ground : L2.Binds K fd__law_ground ["_law_bag_here"] [] := FunD.bindsN (ps := ["_law_bag_here"]) F__law_ground fun _ _ _ _ _ _ us hl => match us, hl with | [_], _ => rfl
  obtain ⟨fd__law_number, F__law_number⟩ := c.def_ 55 (d := d__law_number) rfl
  have g__law_number := He.glo_ok X G (c.fact 55 (f := .glo "_law_number") rfl)
  have b__law_number : L2.Binds K fd__law_number ["_law_bag_here", "_law_g"] [] := FunD.bindsN (ps := ["_law_bag_here", "_law_g"]) F__law_number fun _ _ _ _ _ _ us hl => match us, hl with | [_, _], _ => rfl
  obtain ⟨fd__law_other_than_nought, F__law_other_than_nought⟩ := c.def_ 56 (d := d__law_other_than_nought) rfl
  have g__law_other_than_nought := He.glo_ok X G (c.fact 56 (f := .glo "_law_other_than_nought") rfl)
  have b__law_other_than_nought : L2.Binds K fd__law_other_than_nought ["_law_bag_here", "_law_g"] [] := FunD.bindsN (ps := ["_law_bag_here", "_law_g"]) F__law_other_than_nought fun _ _ _ _ _ _ us hl => match us, hl with | [_, _], _ => rfl
  obtain ⟨fd__law_row, F__law_row⟩ := c.def_ 57 (d := d__law_row) rfl
  have g__law_row := He.glo_ok X G (c.fact 57 (f := .glo "_law_row") rfl)
  have b__law_row : L2.Binds K fd__law_row ["_law_bag_here", "_law_g", "_law_many"] [] := FunD.bindsN (ps := ["_law_bag_here", "_law_g", "_law_many"]) F__law_row fun _ _ _ _ _ _ us hl => match us, hl with | [_, _, _], _ => rfl
  obtain ⟨fd__law_letters, F__law_letters⟩ := c.def_ 58 (d := d__law_letters) rfl
  have g__law_letters := He.glo_ok X G (c.fact 58 (f := .glo "_law_letters") rfl)
  have b__law_letters : L2.Binds K fd__law_letters ["_law_bag_here", "_law_g"] [] := FunD.bindsN (ps := ["_law_bag_here", "_law_g"]) F__law_letters fun _ _ _ _ _ _ us hl => match us, hl with | [_, _], _ => rfl
  obtain ⟨fd__law_changed, F__law_changed⟩ := c.def_ 59 (d := d__law_changed) rfl
  have g__law_changed := He.glo_ok X G (c.fact 59 (f := .glo "_law_changed") rfl)
  have b__law_changed : L2.Binds K fd__law_changed ["_law_bag_here", "_law_g", "_law_table"] [] := FunD.bindsN (ps := ["_law_bag_here", "_law_g", "_law_table"]) F__law_changed fun _ _ _ _ _ _ us hl => match us, hl with | [_, _, _], _ => rfl
  obtain ⟨fd__law_form, F__law_form⟩ := c.def_ 60 (d := d__law_form) rfl
  have g__law_form := He.glo_ok X G (c.fact 60 (f := .glo "_law_form") rfl)
  have b__law_form : L2.Binds K fd__law_form ["_law_bag_here", "_law_g", "_law_many"] [] := FunD.bindsN (ps := ["_law_bag_here", "_law_g", "_law_many"]) F__law_form fun _ _ _ _ _ _ us hl => match us, hl with | [_, _, _], _ => rfl
  obtain ⟨fd__law_with_worth, F__law_with_worth⟩ := c.def_ 61 (d := d__law_with_worth) rfl
  have g__law_with_worth := He.glo_ok X G (c.fact 61 (f := .glo "_law_with_worth") rfl)
  have b__law_with_worth : L2.Binds K fd__law_with_worth ["_law_bag_here", "_law_g", "_law_table"] [] := FunD.bindsN (ps := ["_law_bag_here", "_law_g", "_law_table"]) F__law_with_worth fun _ _ _ _ _ _ us hl => match us, hl with | [_, _, _], _ => rfl
  obtain ⟨fd__law_mirrors, F__law_mirrors⟩ := c.def_ 62 (d := d__law_mirrors) rfl
  have g__law_mirrors := He.glo_ok X G (c.fact 62 (f := .glo "_law_mirrors") rfl)
  have b__law_mirrors : L2.Binds K fd__law_mirrors ["_law_bag_here", "_law_g", "_law_table", "_law_most"] [] := FunD.bindsN (ps := ["_law_bag_here", "_law_g", "_law_table", "_law_most"]) F__law_mirrors fun _ _ _ _ _ _ us hl => match us, hl with | [_, _, _, _], _ => rfl
  obtain ⟨fd__law_is_exchanged, F__law_is_exchanged⟩ := c.def_ 63 (d := d__law_is_exchanged) rfl
  have g__law_is_exchanged := He.glo_ok X G (c.fact 63 (f := .glo "_law_is_exchanged") rfl)
  have b__law_is_exchanged : L2.Binds K fd__law_is_exchanged ["_law_form_here", "_law_g", "_law_table", "_law_rows", "_law_at"] [] := FunD.bindsN (ps := ["_law_form_here", "_law_g", "_law_table", "_law_rows", "_law_at"]) F__law_is_exchanged fun _ _ _ _ _ _ us hl => match us, hl with | [_, _, _, _, _], _ => rfl
  obtain ⟨fd_law, F_law⟩ := c.def_ 64 (d := d_law) rfl
  have g_law := He.glo_ok X G (c.fact 64 (f := .glo "law") rfl)
  obtain ⟨fd_Form___init__, F_Form___init__⟩ := c.def_ 65 (d := d_Form___init__) rfl
  have b_Form___init__ : L2.Binds K fd_Form___init__ ["self", "table", "ground"] [] := bnd_of (ps := ["self", "table", "ground"]) F_Form___init__ 3 (fun e => nomatch (show ([.int 0] : List V) = [] from e)) rfl fun _ _ _ _ _ _ _ us its hu hi => match us, hu, its, hi with | [_, _, _], _, [_], _ => ⟨_, rfl, rfl⟩
  have kb_Form_1_ground : L2.KBn K fd_Form___init__ ["self", "table", "ground"] 2 ["ground"] (fun us ws => us ++ ws) (fun us ws => us ++ ws) := kbn_of (ps := ["self", "table", "ground"]) F_Form___init__ (fun e => nomatch (show ([.int 0] : List V) = [] from e)) (fun _ _ _ _ _ _ _ us ws its l1 l2 l3 => match us, l1, ws, l2, its, l3 with | [_, _], _, [_], _, [_], _ => ⟨_, rfl, rfl⟩) (fun r1 r2 => r1.append r2)
  obtain ⟨fd_Keeper___init__, F_Keeper___init__⟩ := c.def_ 66 (d := d_Keeper___init__) rfl
  have b_Keeper___init__ : L2.Binds K fd_Keeper___init__ ["self", "form", "table"] [] := FunD.bindsN (ps := ["self", "form", "table"]) F_Keeper___init__ fun _ _ _ _ _ _ us hl => match us, hl with | [_, _, _], _ => rfl
  obtain ⟨fd_Keeper_of, F_Keeper_of⟩ := c.def_ 67 (d := d_Keeper_of) rfl
  have b_Keeper_of : L2.Binds K fd_Keeper_of ["self", "row"] [] := FunD.bindsN (ps := ["self", "row"]) F_Keeper_of fun _ _ _ _ _ _ us hl => match us, hl with | [_, _], _ => rfl
  have m_isinstance := He.free_ok X G (c.fact 65 (f := .free "isinstance") rfl)
  have m_int := He.free_ok X G (c.fact 66 (f := .free "int") rfl)
  have m_bool := He.free_ok X G (c.fact 67 (f := .free "bool") rfl)
  have m_abs := He.free_ok X G (c.fact 68 (f := .free "abs") rfl)
  have m_tuple := He.free_ok X G (c.fact 69 (f := .free "tuple") rfl)
  have m_len := He.free_ok X G (c.fact 70 (f := .free "len") rfl)
  have m_all := He.free_ok X G (c.fact 71 (f := .free "all") rfl)
  have m_sum := He.free_ok X G (c.fact 72 (f := .free "sum") rfl)
  have m_zip := He.free_ok X G (c.fact 73 (f := .free "zip") rfl)
  have m_range := He.free_ok X G (c.fact 74 (f := .free "range") rfl)
  have m_list := He.free_ok X G (c.fact 75 (f := .free "list") rfl)
  have m_enumerate := He.free_ok X G (c.fact 76 (f := .free "enumerate") rfl)
  have m_max := He.free_ok X G (c.fact 77 (f := .free "max") rfl)
  have m_min := He.free_ok X G (c.fact 78 (f := .free "min") rfl)
  obtain ⟨t_MOST_LETTERS, mg_MOST_LETTERS⟩ := He.int_ok X G (c.fact 80 (f := .int "MOST_LETTERS" 5) rfl)
  obtain ⟨t_MOST_LETTERS_ON_A_WHEEL, mg_MOST_LETTERS_ON_A_WHEEL⟩ := He.int_ok X G (c.fact 81 (f := .int "MOST_LETTERS_ON_A_WHEEL" 4) rfl)
  obtain ⟨cm1, ce1⟩ := He.ba cm
  have mg_GROUNDS := He.glo_ok X G (c.fact 79 (f := .glo "GROUNDS") rfl)
  have gr_GROUNDS := fun H : Hp => He.tupB_ok (K := K) (x := "GROUNDS") (vs := [.int 0, .int 3, .int 5, .int 7, .int 11, .int 13]) cm1 H
  have gi_Form := gc_Form
  have IC_Form := insB_ok (x := "Form") CF.c ce1
  have e := hfa.symm.trans g_law
  cases e
  have b := FunD.bindsA (ps := ["_law_script"]) F_law fun _ _ _ _ _ _ us hl => match us, hl with | [_], _ => rfl
  refine ⟨fd_law, fun s v => b s [v] rfl, fun base _ _ => ?_⟩
  have G_is_whole : FnOk P w K mg base CX0 1 _ fd_is_whole ["thing"] (sp_is_whole K) := ok_is_whole F_is_whole m_isinstance m_int m_bool
  have G_common_divisor : FnOk P w K mg base CX0 1 _ fd_common_divisor ["a", "b"] (sp_common_divisor K) := ok_common_divisor F_common_divisor m_abs
  have G_is_nought_on : FnOk P w K mg base CX0 1 _ fd_is_nought_on ["ground", "whole"] (sp_is_nought_on K) := ok_is_nought_on F_is_nought_on
  have G_wheel_back : FnOk P w K mg base CX0 1 _ fd_wheel_back ["wheel", "whole"] (sp_wheel_back K) := ok_wheel_back F_wheel_back
  have G_dot : FnOk P w K mg base CX0 1 _ fd_dot ["wholes", "others"] (sp_dot K) := ok_dot F_dot m_sum m_zip
  have G_turned : FnOk P w K mg base CX0 1 _ fd_turned ["table"] (sp_turned K) := ok_turned F_turned m_tuple m_range m_len
  have G_smaller_row : FnOk P w K mg base CX0 1 _ fd_smaller_row ["row", "head", "last"] (sp_smaller_row K) := ok_smaller_row F_smaller_row m_range m_len
  have G_head_place : FnOk P w K mg base CX0 1 _ fd_head_place ["rows", "begin", "at"] (sp_head_place K) := ok_head_place F_head_place m_range m_len
  have G_table_of_ones : FnOk P w K mg base CX0 1 _ fd_table_of_ones ["many"] (sp_table_of_ones K) := ok_table_of_ones F_table_of_ones m_tuple m_range
  have G__law_bag : FnOk P w K mg base CX0 1 _ fd__law_bag ["_law_script", "_law_at"] (sp__law_bag K) := ok__law_bag F__law_bag m_len m_abs
  have G__law_take : FnOk P w K mg base CX0 1 _ fd__law_take ["_law_bag_here", "_law_many"] (sp__law_take K) := ok__law_take F__law_take
  have G__law_shared : FnOk P w K mg base CX0 1 _ fd__law_shared ["_law_one", "_law_other"] (sp__law_shared K) := ok__law_shared F__law_shared m_abs
  have G__law_turned : FnOk P w K mg base CX0 1 _ fd__law_turned ["_law_table"] (sp__law_turned K) := ok__law_turned F__law_turned m_tuple m_range m_len
  have G__law_ones : FnOk P w K mg base CX0 1 _ fd__law_ones ["_law_many"] (sp__law_ones K) := ok__law_ones F__law_ones m_tuple m_range m_int
  have G_is_ground : FnOk P w K mg base CX0 2 _ fd_is_ground ["thing"] (sp_is_ground K) := ok_is_ground F_is_ground F_is_whole b_is_whole g_is_whole G_is_whole mg_GROUNDS gr_GROUNDS
  have G_is_number : FnOk P w K mg base CX0 2 _ fd_is_number ["ground", "thing"] (sp_is_number K) := ok_is_number F_is_number F_is_whole b_is_whole g_is_whole G_is_whole F_common_divisor b_common_divisor g_common_divisor G_common_divisor m_isinstance m_tuple m_len
  have G_lowest : FnOk P w K mg base CX0 2 _ fd_lowest ["ground", "top", "bottom"] (sp_lowest K) := ok_lowest F_lowest F_common_divisor b_common_divisor g_common_divisor G_common_divisor F_wheel_back b_wheel_back g_wheel_back G_wheel_back
  have G_whole_row : FnOk P w K mg base CX0 2 _ fd_whole_row ["row"] (sp_whole_row K) := ok_whole_row F_whole_row F_common_divisor b_common_divisor g_common_divisor G_common_divisor
  have G_whole_determinant : FnOk P w K mg base CX0 2 _ fd_whole_determinant ["rows"] (sp_whole_determinant K) := ok_whole_determinant F_whole_determinant F_head_place b_head_place g_head_place G_head_place F_smaller_row b_smaller_row g_smaller_row G_smaller_row m_len
  have G_plain : FnOk P w K mg base CX0 2 _ fd_plain ["ground", "row"] (sp_plain K) := ok_plain F_plain F_common_divisor b_common_divisor g_common_divisor G_common_divisor
  have G_mirrored : FnOk P w K mg base CX0 2 _ fd_mirrored ["line", "by", "led", "worth"] (sp_mirrored K) := ok_mirrored F_mirrored F_dot b_dot g_dot G_dot m_zip
  have G__law_mixed : FnOk P w K mg base CX0 2 _ fd__law_mixed ["_law_bag_here", "_law_row_here"] (sp__law_mixed K) := ok__law_mixed F__law_mixed F__law_take b__law_take g__law_take G__law_take m_list m_len
  have G__law_low : FnOk P w K mg base CX0 2 _ fd__law_low ["_law_g", "_law_up", "_law_down"] (sp__law_low K) := ok__law_low F__law_low F__law_shared b__law_shared g__law_shared G__law_shared m_range m_int
  have G__law_ground : FnOk P w K mg base CX0 2 _ fd__law_ground ["_law_bag_here"] (sp__law_ground K) := ok__law_ground F__law_ground F__law_take b__law_take g__law_take G__law_take
  have G__law_letters : FnOk P w K mg base CX0 2 _ fd__law_letters ["_law_bag_here", "_law_g"] (sp__law_letters K) := ok__law_letters F__law_letters F__law_take b__law_take g__law_take G__law_take m_int
  have G_is_row : FnOk P w K mg base CX0 3 _ fd_is_row ["ground", "thing", "many"] (sp_is_row K) := ok_is_row F_is_row F_is_number b_is_number g_is_number G_is_number m_all m_isinstance m_tuple m_len
  have G_product_row : FnOk P w K mg base CX0 3 _ fd_product_row ["ground", "row", "columns"] (sp_product_row K) := ok_product_row F_product_row F_lowest b_lowest g_lowest G_lowest F_dot b_dot g_dot G_dot m_tuple
  have G_whole_table : FnOk P w K mg base CX0 3 _ fd_whole_table ["table"] (sp_whole_table K) := ok_whole_table F_whole_table F_whole_row b_whole_row g_whole_row G_whole_row m_len m_range
  have G_determinant : FnOk P w K mg base CX0 3 _ fd_determinant ["ground", "table"] (sp_determinant K) := ok_determinant F_determinant F_lowest b_lowest g_lowest G_lowest F_whole_row b_whole_row g_whole_row G_whole_row F_whole_determinant b_whole_determinant g_whole_determinant G_whole_determinant
  have G__law_plus : FnOk P w K mg base CX0 3 _ fd__law_plus ["_law_g", "_law_x", "_law_y"] (sp__law_plus K) := ok__law_plus F__law_plus F__law_low b__law_low g__law_low G__law_low
  have G__law_times : FnOk P w K mg base CX0 3 _ fd__law_times ["_law_g", "_law_x", "_law_y"] (sp__law_times K) := ok__law_times F__law_times F__law_low b__law_low g__law_low G__law_low
  have G__law_minus : FnOk P w K mg base CX0 3 _ fd__law_minus ["_law_g", "_law_x"] (sp__law_minus K) := ok__law_minus F__law_minus F__law_low b__law_low g__law_low G__law_low
  have G__law_over : FnOk P w K mg base CX0 3 _ fd__law_over ["_law_g", "_law_x", "_law_y"] (sp__law_over K) := ok__law_over F__law_over F__law_low b__law_low g__law_low G__law_low
  have G__law_number : FnOk P w K mg base CX0 3 _ fd__law_number ["_law_bag_here", "_law_g"] (sp__law_number K) := ok__law_number F__law_number F__law_low b__law_low g__law_low G__law_low F__law_take b__law_take g__law_take G__law_take
  have G_is_table : FnOk P w K mg base CX0 4 _ fd_is_table ["ground", "thing", "high", "wide"] (sp_is_table K) := ok_is_table F_is_table F_is_row b_is_row g_is_row G_is_row m_all m_isinstance m_tuple m_len
  have G_product : FnOk P w K mg base CX0 4 _ fd_product ["ground", "one", "other"] (sp_product K) := ok_product F_product F_whole_row b_whole_row g_whole_row G_whole_row F_turned b_turned g_turned G_turned F_product_row b_product_row g_product_row G_product_row m_tuple
  have G_want_rows : FnOk P w K mg base CX0 4 _ fd_want_rows ["form", "things"] (sp_want_rows K) := ok_want_rows F_want_rows F_is_row b_is_row g_is_row G_is_row CF CK m_len
  have G_first_changed : FnOk P w K mg base CX0 4 _ fd_first_changed ["form", "table"] (sp_first_changed K) := ok_first_changed F_first_changed F_whole_table b_whole_table g_whole_table G_whole_table F_whole_row b_whole_row g_whole_row G_whole_row F_dot b_dot g_dot G_dot F_is_nought_on b_is_nought_on g_is_nought_on G_is_nought_on CF CK m_enumerate m_range m_len
  have G_whole_mirrors : FnOk P w K mg base CX0 4 _ fd_whole_mirrors ["form", "rows"] (sp_whole_mirrors K) := ok_whole_mirrors F_whole_mirrors F_whole_table b_whole_table g_whole_table G_whole_table F_plain b_plain g_plain G_plain F_dot b_dot g_dot G_dot F_table_of_ones b_table_of_ones g_table_of_ones G_table_of_ones F_mirrored b_mirrored g_mirrored G_mirrored F_whole_row b_whole_row g_whole_row G_whole_row CF CK m_len
  have G__law_sum : FnOk P w K mg base CX0 4 _ fd__law_sum ["_law_g", "_law_some"] (sp__law_sum K) := ok__law_sum F__law_sum F__law_plus b__law_plus g__law_plus G__law_plus
  have G__law_scaled : FnOk P w K mg base CX0 4 _ fd__law_scaled ["_law_g", "_law_row_here", "_law_x"] (sp__law_scaled K) := ok__law_scaled F__law_scaled F__law_times b__law_times g__law_times G__law_times m_tuple
  have G__law_added : FnOk P w K mg base CX0 4 _ fd__law_added ["_law_g", "_law_row_here", "_law_other"] (sp__law_added K) := ok__law_added F__law_added F__law_plus b__law_plus g__law_plus G__law_plus m_tuple m_zip
  have G__law_other_than_nought : FnOk P w K mg base CX0 4 _ fd__law_other_than_nought ["_law_bag_here", "_law_g"] (sp__law_other_than_nought K) := ok__law_other_than_nought F__law_other_than_nought F__law_number b__law_number g__law_number G__law_number m_int
  have G__law_row : FnOk P w K mg base CX0 4 _ fd__law_row ["_law_bag_here", "_law_g", "_law_many"] (sp__law_row K) := ok__law_row F__law_row F__law_number b__law_number g__law_number G__law_number m_tuple m_range
  have G_through : FnOk P w K mg base CX0 5 _ fd_through ["ground", "row", "table"] (sp_through K) := ok_through F_through F_product b_product g_product G_product
  have G_is_form_table : FnOk P w K mg base CX0 5 _ fd_is_form_table ["ground", "thing"] (sp_is_form_table K) := ok_is_form_table F_is_form_table F_is_table b_is_table g_is_table G_is_table F_turned b_turned g_turned G_turned F_determinant b_determinant g_determinant G_determinant mg_MOST_LETTERS mg_MOST_LETTERS_ON_A_WHEEL m_len m_isinstance m_tuple
  have G_want_list_of_rows : FnOk P w K mg base CX0 5 _ fd_want_list_of_rows ["form", "thing"] (sp_want_list_of_rows K) := ok_want_list_of_rows F_want_list_of_rows F_want_rows b_want_rows g_want_rows G_want_rows m_isinstance m_list
  have G_products : FnOk P w K mg base CX0 5 _ fd_products ["form", "rows", "others"] (sp_products K) := ok_products F_products F_product b_product g_product G_product F_turned b_turned g_turned G_turned CF CK
  have G_Keeper___init__ : FnOk P w K mg base CX0 5 _ fd_Keeper___init__ ["self", "form", "table"] (sp_Keeper___init__ K) := ok_Keeper___init__ F_Keeper___init__ F_first_changed b_first_changed g_first_changed G_first_changed F_is_table b_is_table g_is_table G_is_table gi_Form IC_Form CF CK m_isinstance m_len
  have G_mirrors_table : FnOk P w K mg base CX0 5 _ fd_mirrors_table ["form", "rows"] (sp_mirrors_table K) := ok_mirrors_table F_mirrors_table F_whole_mirrors b_whole_mirrors g_whole_mirrors G_whole_mirrors F_lowest b_lowest g_lowest G_lowest CF CK m_tuple
  have G__law_through : FnOk P w K mg base CX0 5 _ fd__law_through ["_law_g", "_law_row_here", "_law_table"] (sp__law_through K) := ok__law_through F__law_through F__law_added b__law_added g__law_added G__law_added F__law_scaled b__law_scaled g__law_scaled G__law_scaled m_tuple m_zip m_len
  have G_Form___init__ : FnOk P w K mg base CX0 6 _ fd_Form___init__ ["self", "table", "ground"] (sp_Form___init__ K) := ok_Form___init__ F_Form___init__ F_is_ground b_is_ground g_is_ground G_is_ground F_is_form_table b_is_form_table g_is_form_table G_is_form_table CF CK
  have G_worth_of : FnOk P w K mg base CX0 6 _ fd_worth_of ["form", "row"] (sp_worth_of K) := ok_worth_of F_worth_of F_products b_products g_products G_products
  have G_Keeper_of : FnOk P w K mg base CX0 6 _ fd_Keeper_of ["self", "row"] (sp_Keeper_of K) := ok_Keeper_of F_Keeper_of F_want_rows b_want_rows g_want_rows G_want_rows F_through b_through g_through G_through CF CK
  have G__law_product : FnOk P w K mg base CX0 6 _ fd__law_product ["_law_g", "_law_one", "_law_other"] (sp__law_product K) := ok__law_product F__law_product F__law_through b__law_through g__law_through G__law_through m_tuple
  have G__law_pair : FnOk P w K mg base CX0 6 _ fd__law_pair ["_law_g", "_law_table", "_law_row_here", "_law_other"] (sp__law_pair K) := ok__law_pair F__law_pair F__law_sum b__law_sum g__law_sum G__law_sum F__law_times b__law_times g__law_times G__law_times F__law_through b__law_through g__law_through G__law_through m_zip
  have G_want_worths : FnOk P w K mg base CX0 7 _ fd_want_worths ["form", "rows"] (sp_want_worths K) := ok_want_worths F_want_worths F_worth_of b_worth_of g_worth_of G_worth_of
  have G__law_worth : FnOk P w K mg base CX0 7 _ fd__law_worth ["_law_g", "_law_table", "_law_row_here"] (sp__law_worth K) := ok__law_worth F__law_worth F__law_pair b__law_pair g__law_pair G__law_pair
  have G__law_changed : FnOk P w K mg base CX0 7 _ fd__law_changed ["_law_bag_here", "_law_g", "_law_table"] (sp__law_changed K) := ok__law_changed F__law_changed F__law_take b__law_take g__law_take G__law_take F__law_product b__law_product g__law_product G__law_product F__law_turned b__law_turned g__law_turned G__law_turned F__law_minus b__law_minus g__law_minus G__law_minus F__law_low b__law_low g__law_low G__law_low F__law_ones b__law_ones g__law_ones G__law_ones m_len m_range m_tuple m_list
  have G_mirror : FnOk P w K mg base CX0 8 _ fd_mirror ["form", "row"] (sp_mirror K) := ok_mirror F_mirror F_want_rows b_want_rows g_want_rows G_want_rows F_want_worths b_want_worths g_want_worths G_want_worths F_mirrors_table b_mirrors_table g_mirrors_table G_mirrors_table F_Keeper___init__ M_Keeper gc_Keeper b_Keeper___init__ G_Keeper___init__
  have G__law_mirror : FnOk P w K mg base CX0 8 _ fd__law_mirror ["_law_g", "_law_table", "_law_row_here"] (sp__law_mirror K) := ok__law_mirror F__law_mirror F__law_over b__law_over g__law_over G__law_over F__law_ones b__law_ones g__law_ones G__law_ones F__law_low b__law_low g__law_low G__law_low F__law_worth b__law_worth g__law_worth G__law_worth F__law_added b__law_added g__law_added G__law_added F__law_scaled b__law_scaled g__law_scaled G__law_scaled F__law_times b__law_times g__law_times G__law_times F__law_pair b__law_pair g__law_pair G__law_pair m_len m_tuple
  have G__law_form : FnOk P w K mg base CX0 8 _ fd__law_form ["_law_bag_here", "_law_g", "_law_many"] (sp__law_form K) := ok__law_form F__law_form F__law_take b__law_take g__law_take G__law_take F__law_minus b__law_minus g__law_minus G__law_minus F__law_changed b__law_changed g__law_changed G__law_changed F__law_other_than_nought b__law_other_than_nought g__law_other_than_nought G__law_other_than_nought m_tuple m_range
  have G__law_with_worth : FnOk P w K mg base CX0 8 _ fd__law_with_worth ["_law_bag_here", "_law_g", "_law_table"] (sp__law_with_worth K) := ok__law_with_worth F__law_with_worth F__law_ones b__law_ones g__law_ones G__law_ones F__law_row b__law_row g__law_row G__law_row F__law_mixed b__law_mixed g__law_mixed G__law_mixed F__law_added b__law_added g__law_added G__law_added F__law_worth b__law_worth g__law_worth G__law_worth m_len m_range m_list
  have G_exchanged : FnOk P w K mg base CX0 9 _ fd_exchanged ["form", "rows", "place"] (sp_exchanged K) := ok_exchanged F_exchanged F_want_list_of_rows b_want_list_of_rows g_want_list_of_rows G_want_list_of_rows F_want_worths b_want_worths g_want_worths G_want_worths F_is_whole b_is_whole g_is_whole G_is_whole F_mirror b_mirror g_mirror G_mirror F_Keeper_of M_Keeper_of b_Keeper_of G_Keeper_of CF CK m_len
  have G__law_made : FnOk P w K mg base CX0 9 _ fd__law_made ["_law_g", "_law_table", "_law_rows"] (sp__law_made K) := ok__law_made F__law_made F__law_ones b__law_ones g__law_ones G__law_ones F__law_product b__law_product g__law_product G__law_product F__law_mirror b__law_mirror g__law_mirror G__law_mirror m_len
  have G__law_mirrors : FnOk P w K mg base CX0 9 _ fd__law_mirrors ["_law_bag_here", "_law_g", "_law_table", "_law_most"] (sp__law_mirrors K) := ok__law_mirrors F__law_mirrors F__law_take b__law_take g__law_take G__law_take F__law_with_worth b__law_with_worth g__law_with_worth G__law_with_worth m_range m_len
  have G__law_is_exchanged : FnOk P w K mg base CX0 10 _ fd__law_is_exchanged ["_law_form_here", "_law_g", "_law_table", "_law_rows", "_law_at"] (sp__law_is_exchanged K) := ok__law_is_exchanged F__law_is_exchanged F__law_made b__law_made g__law_made G__law_made F_exchanged kb_exchanged_2_place g_exchanged G_exchanged F__law_through b__law_through g__law_through G__law_through F__law_mirror b__law_mirror g__law_mirror G__law_mirror m_list m_range m_isinstance
  exact ok_law F_law F__law_bag b__law_bag g__law_bag G__law_bag F__law_ground b__law_ground g__law_ground G__law_ground F__law_form b__law_form g__law_form G__law_form F__law_letters b__law_letters g__law_letters G__law_letters F__law_mirrors b__law_mirrors g__law_mirrors G__law_mirrors F__law_take b__law_take g__law_take G__law_take F__law_scaled b__law_scaled g__law_scaled G__law_scaled F__law_with_worth b__law_with_worth g__law_with_worth G__law_with_worth F__law_other_than_nought b__law_other_than_nought g__law_other_than_nought G__law_other_than_nought F__law_is_exchanged b__law_is_exchanged g__law_is_exchanged G__law_is_exchanged F_Form___init__ M_Form gc_Form kb_Form_1_ground G_Form___init__ m_range m_max m_list m_min m_all m_len

end Fm
open PySem PySem.W PySem.Calls PyProof.Rows
set_option maxHeartbeats 0 in
theorem PySem.Challenge.cw_fewmirrors_k28_neighbours_exchanged_holds : PySem.Challenge.rw_fewmirrors_k28_neighbours_exchanged.Holds := by
  w_on; o_law
  refine HandSHeadRun.head_any (r := OpenLaw.row PySem.Challenge.rw_fewmirrors_k28_neighbours_exchanged) (q := view (OpenLaw.row PySem.Challenge.rw_fewmirrors_k28_neighbours_exchanged).prog [101]) (H := Fm.hk) (ob := Fm.ob) (M := 8000) (loose := Fm.loose) (d := HandSHeadRun.topDef (OpenLaw.row PySem.Challenge.rw_fewmirrors_k28_neighbours_exchanged).prog 101) (kwd := []) Fm.ob_eq
    (by kernel_rfl) (fun s => by kernel_rfl) Fm.run (by kernel_rfl) (by kernel_rfl) (by kernel_rfl) (by rfl) (by first | assumption | decide +kernel) (by decide +kernel) ⟨rfl, rfl, rfl, rfl, rfl, by decide +kernel⟩ ?hw ?hc
  case hw => w_witness2
  case hc =>
    refine L2.walk_ofE (l := PySem.Challenge.rw_fewmirrors_k28_neighbours_exchanged) (n := 63) (k := 11) (x := "_law_script") (CX := L2.CX0) rfl (by decide) (by kernel_rfl) ⟨rfl, by decide, by decide⟩ ?F (fun _ _ _ _ z => z)
    intro w mg fa h Y G hmg0
    obtain ⟨K, KX, c⟩ := Y
    have hmg : mg ("law" : PySem.Str) = some (.ref fa) := by
      have e : (HandSHeadRun.topDef (OpenLaw.row PySem.Challenge.rw_fewmirrors_k28_neighbours_exchanged).prog 101).name = ("law" : PySem.Str) := by kernel_rfl
      rw [← e]
      exact hmg0
    obtain ⟨fd, hb, hF⟩ := Fm.facts (P := (PySem.Challenge.rw_fewmirrors_k28_neighbours_exchanged).prog) (w := w) KX G hmg c
    exact ⟨K, fd, Fm.sp_law K, KX, hb, fun H a ns hl _ hS => ⟨a, ns, rfl, hS, fun _ => rfl⟩, hF⟩
