import PyProof.Rows.All
import Wide.All
import OpenK.AllK
import Wide.FinOn
import KE.KStateDown
import HandS.ForMost
import HandS.ForExc
import HandS.More
import HandS.Defaults
import HandS.IsInst
import HandS.Wide
import HandS.Conv
import HandS.Flow
import HandS.Zip
import HandS.Head0
import HandS.Head1
import HandS.Head2
import HandS.HeadEnd
import HandS.HeadHook1
import HandS.HeadHook2
import PySem.Challenge.RW_stepsvanish_k01_numbers_factored
set_option Elab.async false
set_option linter.all false
set_option maxRecDepth 100000
namespace Rd
open PySem PySem.Spec PyProof.Rows L2
/-! ### readings, step by step -/
section
variable {D : Ends} {σ : L2.St} {H : Hp} {t u : TS} {te ta tb tc : TE} {g : TG} {Q : VK} {v x y z : V} {c c1 c2 : TT} {i j : Int} {n : Nat} {K : PySem.W.Frag} {r r' : R2}
theorem seq (h : t { D with nx := u D } σ H) : tSeq t u D σ H := h
theorem seqA {u : TS} (h : tAsg te g { D with nx := u D } σ H) : tSeq (tAsg te g) u D σ H := h
theorem seqD {u : TS} (h : tDrop te { D with nx := u D } σ H) : tSeq (tDrop te) u D σ H := h
theorem seqF {u : TS} {wi : TI} {tb : TS} (h : tFor wi g tb { D with nx := u D } σ H) : tSeq (tFor wi g tb) u D σ H := h
theorem seqW {u : TS} {tb : TS} (h : tWhile c tb { D with nx := u D } σ H) : tSeq (tWhile c tb) u D σ H := h
/-- ways that join: what holds behind t, said once -/
theorem seqJ (P : L2.St → Hp → Prop) (h1 : ∀ σ' H', P σ' H' → u D σ' H') (h2 : ∀ N : L2.St → Hp → Prop, (∀ σ' H', P σ' H' → N σ' H') → t { D with nx := N } σ H) : tSeq t u D σ H := h2 _ h1
theorem nxt (h : D.nx σ H) : tNext D σ H := h
theorem asg (h : te σ H fun x H1 => g x σ H1 D.nx) : tAsg te g D σ H := h
theorem nm {P : L2.St → Hp → Prop} (h : P (σ.set n (some v)) H) : gName n v σ H P := h
theorem sub {to ti : TE} {t : TSet} {P : L2.St → Hp → Prop} (h : to σ H fun o H1 => ti σ H1 fun i H2 => t o i v H2 fun H3 => P σ H3) : gSub to ti t v σ H P := h
theorem setL {p : Addr} {xs : List V} {k : Int} {j : Nat} {P : Hp → Prop} (h1 : H p = some (.lst xs)) (h2 : ixN xs.length k = some j) (h : P (upd H p (.lst (xs.set j v)))) : rSetL (.ref p) (.int k) v H P := ⟨p, xs, k, j, rfl, rfl, h1, h2, h⟩
theorem var (e : σ[n]? = some (some v)) (h : Q v H) : tVar n σ H Q := ⟨v, e, h⟩
theorem con (h : Q v H) : tC v σ H Q := h
theorem op (h : ta σ H fun x H1 => tb σ H1 fun y H2 => r x y H2 Q) : tOp r ta tb σ H Q := h
theorem i0 {f : Int → Int → V} (h : Q (f i j) H) : rI0 f (.int i) (.int j) H Q := ⟨i, j, rfl, rfl, h⟩
theorem iC {C : Int → Int → Prop} {f : Int → Int → V} (hc : C i j) (h : Q (f i j) H) : rI C f (.int i) (.int j) H Q := ⟨i, j, rfl, rfl, hc, h⟩
theorem un {r : V → Hp → VK → Prop} (h : ta σ H fun x H1 => r x H1 Q) : tUn r ta σ H Q := h
theorem u0 {f : Int → V} (h : Q (f i) H) : rU f (.int i) H Q := ⟨i, rfl, h⟩
theorem eqI (h : Q (.bl (decide (i = j))) H) : rEq (.int i) (.int j) H Q := ⟨rfl, (show Q (.bl (decide (V.int i = V.int j))) H from by rw [show decide (V.int i = V.int j) = decide (i = j) from decide_eq_decide.mpr ⟨V.int.inj, congrArg _⟩]; exact h)⟩
theorem neI (h : Q (.bl (!decide (i = j))) H) : rNe (.int i) (.int j) H Q := ⟨rfl, (show Q (.bl (!decide (V.int i = V.int j))) H from by rw [show decide (V.int i = V.int j) = decide (i = j) from decide_eq_decide.mpr ⟨V.int.inj, congrArg _⟩]; exact h)⟩
theorem eqB {a b : Bool} (h : Q (.bl (a == b)) H) : rEq (.bl a) (.bl b) H Q := ⟨rfl, (show Q (.bl (decide (V.bl a = V.bl b))) H from by rw [dec_bl]; exact h)⟩
theorem tst {P : Bool → Hp → Prop} (h : te σ H fun x H' => ∃ k, x = .bl k ∧ P k H') : tTest te σ H P := h
theorem tB_ {P : Bool → Hp → Prop} (h : te σ H fun x H' => ∃ k, x = .bl k ∧ P k H') : tB te σ H P := h
theorem exb {P : Bool → Prop} {b : Bool} (h : P b) : ∃ k, V.bl b = .bl k ∧ P k := ⟨b, rfl, h⟩
theorem ifS (h : c σ H fun b H1 => if b = true then t D σ H1 else u D σ H1) : tIfS c t u D σ H := h
theorem ret (h : te σ H D.rt) : tRet te D σ H := h
theorem retN (h : D.rt .non H) : tRetN D σ H := h
theorem drop (h : te σ H fun _ H1 => D.nx σ H1) : tDrop te D σ H := h
theorem nil {P : List V → Hp → Prop} (h : P [] H) : tNil σ H P := h
theorem cons {ts : TA} {P : List V → Hp → Prop} (h : ta σ H fun x H1 => ts σ H1 fun xs H2 => P (x :: xs) H2) : tCons ta ts σ H P := h
theorem cb {r : List V → Hp → VK → Prop} {ts : TA} (h : ts σ H fun vs H1 => r vs H1 Q) : tCB r ts σ H Q := h
theorem call {sp : Sp} {E : XK} {ts : TA} (h : ts σ H fun vs H1 => sp (vs ++ []) H1 Q E) : tCall sp [] E ts σ H Q := h
theorem andT {P : Bool → Hp → Prop} (h : c1 σ H fun b H1 => if b = true then c2 σ H1 P else P false H1) : tAnd c1 c2 σ H P := h
theorem orT {P : Bool → Hp → Prop} (h : c1 σ H fun b H1 => if b = true then P true H1 else c2 σ H1 P) : tOr c1 c2 σ H P := h
theorem notT {P : Bool → Hp → Prop} (h : c σ H fun b H1 => P (!b) H1) : tNot c σ H P := h
theorem andV (h : ta σ H fun x H1 => ∃ c, x = .bl c ∧ if c = true then tb σ H1 Q else Q (.bl false) H1) : tAndV ta tb σ H Q := h
theorem orV (h : ta σ H fun x H1 => ∃ c, x = .bl c ∧ if c = true then Q (.bl true) H1 else tb σ H1 Q) : tOrV ta tb σ H Q := h
theorem notV (h : ta σ H fun x H1 => ∃ c, x = .bl c ∧ Q (.bl (!c)) H1) : tNotV ta σ H Q := h
theorem chain (h : ta σ H fun x H1 => tb σ H1 fun y H2 => r x y H2 fun z H3 => ∃ k, z = .bl k ∧ (if k = true then tc σ H3 fun w' H4 => r' y w' H4 Q else Q (.bl false) H3)) : tChain r r' ta tb tc σ H Q := h
theorem ixL {p : Addr} {xs : List V} (h1 : SqL K H p xs) (h2 : atI xs i = some v) (h : Q v H) : rIxL K (.ref p) (.int i) H Q := ⟨p, xs, i, v, rfl, rfl, h1, h2, h⟩
theorem ixT {p : Addr} {xs : List V} (h1 : SqT K H p xs) (h2 : atI xs i = some v) (h : Q v H) : rIxT K (.ref p) (.int i) H Q := ⟨p, xs, i, v, rfl, rfl, h1, h2, h⟩
theorem lst {ts : TA} (h : ts σ H fun xs H1 => xs.length ≤ sizeLine ∧ ∀ p, H1 p = none → Q (.ref p) (upd H1 p (.lst xs))) : tLst ts σ H Q := h
theorem tup {ts : TA} (h : ts σ H fun xs H1 => xs.length ≤ sizeLine ∧ ∀ p, H1 p = none → Q (.ref p) (upd H1 p (.tup xs))) : tTup ts σ H Q := h
theorem for_ {wi : TI} {tb : TS} (h : wi σ H fun J H1 => ∃ W : Nat → Nat → L2.St → Hp → Prop, (∃ m, W 0 m σ H1) ∧ ∀ i m σ H, W i m σ H →
  (J.stop i H ∧ D.nx σ H) ∨ (J.go i H ∧ ∃ N : L2.St → Hp → Prop, (∀ σ' H', N σ' H' → ∃ m', m' < m ∧ W (i + 1) m' σ' H') ∧ ∀ x H', J.yld i H x H' → g x σ H' fun σ2 H2 => tb { D with nx := N, ct := N, bk := D.nx } σ2 H2)) : tFor wi g tb D σ H := h
theorem rng1 {ts : TA} {R : It → Hp → Prop} (h : ts σ H fun vs H1 => ∃ j : Int, vs = [.int j] ∧ -(2 ^ 62) ≤ j ∧ j < 2 ^ 62 ∧ R (Itr 0 j.toNat) H1) : iRng1 ts σ H R := h
theorem rng1' {j : Int} {P : Int → Prop} (h1 : -(2 ^ 62) ≤ j) (h2 : j < 2 ^ 62) (h : P j) : ∃ k : Int, [V.int j] = [.int k] ∧ -(2 ^ 62) ≤ k ∧ k < 2 ^ 62 ∧ P k := ⟨j, rfl, h1, h2, h⟩
theorem rng2' {i j : Int} {P : Int → Int → Prop} (h1 : -(2 ^ 62) ≤ i ∧ i < 2 ^ 62 ∧ -(2 ^ 62) ≤ j ∧ j < 2 ^ 62) (h : P i j) : ∃ a b : Int, [V.int i, V.int j] = [.int a, .int b] ∧ (-(2 ^ 62) ≤ a ∧ a < 2 ^ 62 ∧ -(2 ^ 62) ≤ b ∧ b < 2 ^ 62) ∧ P a b := ⟨i, j, rfl, h1, h⟩
theorem lrg {te : L2.St → Hp → (Int → Int → Hp → Prop) → Prop} (h : te σ H fun a b H1 => RgOk a b ∧ ∀ q, H1 q = none → Q (.ref q) (upd H1 q (.lst (rgV a b)))) : tLstRg te σ H Q := h
theorem rg1 {P : Int → Int → Hp → Prop} (h : ta σ H fun x H1 => ∃ n, x = .int n ∧ P 0 n H1) : tRg1 ta σ H P := h
theorem rg2 {P : Int → Int → Hp → Prop} (h : ta σ H fun x H1 => tb σ H1 fun y H2 => ∃ i j, x = .int i ∧ y = .int j ∧ P i j H2) : tRg2 ta tb σ H P := h
theorem exi {P : Int → Prop} (h : P i) : ∃ n, V.int i = .int n ∧ P n := ⟨i, rfl, h⟩
theorem exi2 {P : Int → Int → Prop} (h : P i j) : ∃ a b, V.int i = .int a ∧ V.int j = .int b ∧ P a b := ⟨i, j, rfl, rfl, h⟩
theorem rng2 {ts : TA} {R : It → Hp → Prop} (h : ts σ H fun vs H1 => ∃ i j : Int, vs = [.int i, .int j] ∧ (-(2 ^ 62) ≤ i ∧ i < 2 ^ 62 ∧ -(2 ^ 62) ≤ j ∧ j < 2 ^ 62) ∧ R (Itr i (j - i).toNat) H1) : iRng2 ts σ H R := h
theorem itl {tl : TE} {R : It → Hp → Prop} (h : tl σ H fun x H1 => ∃ a, x = .ref a ∧ (∃ xs, SqL K H1 a xs) ∧ R (Itl K a) H1) : iList K tl σ H R := h
theorem itt {tl : TE} {R : It → Hp → Prop} (h : tl σ H fun x H1 => ∃ a, x = .ref a ∧ (∃ xs, SqT K H1 a xs) ∧ R (Itt K a) H1) : iTup K tl σ H R := h
theorem itl' {a : Addr} {xs : List V} {P : Addr → Prop} (h1 : SqL K H a xs) (h : P a) : ∃ b, V.ref a = .ref b ∧ (∃ xs, SqL K H b xs) ∧ P b := ⟨a, rfl, ⟨xs, h1⟩, h⟩
theorem itt' {a : Addr} {xs : List V} {P : Addr → Prop} (h1 : SqT K H a xs) (h : P a) : ∃ b, V.ref a = .ref b ∧ (∃ xs, SqT K H b xs) ∧ P b := ⟨a, rfl, ⟨xs, h1⟩, h⟩
theorem ite_d {A B C : Prop} [Decidable C] (h1 : C → A) (h2 : ¬ C → B) : if decide C = true then A else B := by
  by_cases h : C
  · rw [if_pos (decide_eq_true h)]; exact h1 h
  · rw [if_neg (by rw [decide_eq_false h]; exact Bool.false_ne_true)]; exact h2 h
theorem ite_n {A B C : Prop} [Decidable C] (h1 : ¬ C → A) (h2 : C → B) : if (!decide C) = true then A else B := by
  by_cases h : C
  · rw [decide_eq_true h]; exact (if_neg Bool.false_ne_true).mpr (h2 h)
  · rw [decide_eq_false h]; exact (if_pos rfl).mpr (h1 h)
theorem ite_b {A B : Prop} {b : Bool} (h1 : b = true → A) (h2 : b = false → B) : if b = true then A else B := by
  cases b with
  | true => exact (if_pos rfl).mpr (h1 rfl)
  | false => exact (if_neg Bool.false_ne_true).mpr (h2 rfl)
theorem ite_nb {A B : Prop} {b : Bool} (h1 : b = false → A) (h2 : b = true → B) : if (!b) = true then A else B := by
  cases b with
  | true => exact (if_neg Bool.false_ne_true).mpr (h2 rfl)
  | false => exact (if_pos rfl).mpr (h1 rfl)
theorem len1 {p : Addr} {xs : List V} {P : Addr → List V → Prop} (h1 : SqL K H p xs ∨ SqT K H p xs) (h : P p xs) : ∃ q ys, [V.ref p] = [.ref q] ∧ (SqL K H q ys ∨ SqT K H q ys) ∧ P q ys := ⟨p, xs, rfl, h1, h⟩
theorem int1 {P : Int → Prop} {B : Prop} (h : P i) : (∃ j, [V.int i] = [.int j] ∧ P j) ∨ B := Or.inl ⟨i, rfl, h⟩
theorem ex1 {P : Int → Prop} (h : P i) : ∃ j, [V.int i] = [.int j] ∧ P j := ⟨i, rfl, h⟩
theorem ex2 {P : Int → Int → Prop} (h : P i j) : ∃ a b, [V.int i, V.int j] = [.int a, .int b] ∧ P a b := ⟨i, j, rfl, h⟩

theorem isi {T : String} {t : Value} {b : Bool} (ty : TyX K H x t) (e : PySem.W.kitOne K t (.type T) = some b) (h : Q (.bl b) H) : rIsi K [x, .ty T] H Q := ⟨x, .ty T, t, .type T, b, rfl, .ty T, ty, e, h⟩
end
theorem kit_ty {K : PySem.W.Frag} {a b : String} {v : Bool} (h : PySem.W.kitOne [] (.type a) (.type b) = some v) (h2 : ∀ K : PySem.W.Frag, PySem.W.kitOne K (.type a) (.type b) = PySem.W.kitOne [] (.type a) (.type b) := by intro K; rfl) : PySem.W.kitOne K (.type a) (.type b) = some v := (h2 K).trans h
theorem RelV_ty (n : String) : RelV (.ty n) (.type n) := rfl
/-! ### heaps -/
theorem same_mk {H : Hp} {p : Addr} {o : HO} (h : H p = none) : Same H (upd H p o) := fun b w e => by
  rw [upd_ne (ne_of_none e h)]
  exact e
theorem same_t {K : PySem.W.Frag} {H H' : Hp} {a : Addr} {xs : List V} (e : Same H H') (h : SqT K H a xs) : SqT K H' a xs := by
  rcases h with (h | ⟨o, h⟩) | h
  · exact .inl (.inl (e _ _ h))
  · exact .inl (.inr ⟨o, e _ _ h⟩)
  · exact .inr h
theorem same_mut {H H' : Hp} {p : Addr} {o : HO} (e : Same H H') (h : H p = none) : Same H (upd H' p o) := fun b w hb => by
  rw [upd_ne (ne_of_none hb h)]
  exact e _ _ hb
theorem same_add {H H' : Hp} {p : Addr} {o : HO} (e : Same H H') (h : H' p = none) : Same H (upd H' p o) := fun b w hb => by
  rw [upd_ne (ne_of_none (e _ _ hb) h)]
  exact e _ _ hb
/-- all but a -/
def But (a : Addr) (H H' : Hp) : Prop := ∀ b o, b ≠ a → H b = some o → H' b = some o
theorem But.refl (a : Addr) (H : Hp) : But a H H := fun _ _ _ h => h
theorem But.trans {a : Addr} {H H1 H2 : Hp} (x : But a H H1) (y : But a H1 H2) : But a H H2 := fun b o n h => y b o n (x b o n h)
theorem But.put {a : Addr} {H : Hp} {o : HO} : But a H (upd H a o) := fun b w n e => by rw [upd_ne n]; exact e
theorem But.of {a : Addr} {H H' : Hp} (x : Same H H') : But a H H' := fun b o _ h => x b o h
/-! ### a def, called -/
structure DOk (P : Program) (w : World) (K : PySem.W.Frag) (mg : Str → Option Value) (base : Heap) (CX : CXT) (x : Str) (k : Nat) (ps : List Str) (sp : Sp) : Prop where
  ok : ∃ f fd, FnOk P w K mg base CX k f fd ps sp ∧ mg x = some (.ref f) ∧ PySem.W.keepIn K (.ref f) = true ∧ Binds K fd ps []
section
variable {X : Cx} {x : Str} {p pos : Pos} {e : Expr} {es : List Expr} {ts : TA} {k : Nat} {ps : List Str} {sp : Sp}
theorem callD (D : DOk X.prog X.w X.K X.mg X.base CX0 x k ps sp) (hr : Room k X.A) (ha : PA X (e :: es) ts) (hg : Gl X x := by rfl) (hdb : (x == ("__debug__" : Str)) = false := by decide)
    (he : starEach (e :: es) X.env = (false, eval e X.env) :: starEach es X.env := by rfl) (hpl : (backTo pos (starEach es X.env)).any (·.1) = false := by rfl) :
    PE X (.Call (.Name x p) (e :: es) [] pos) (tCall sp [] E0 ts) := by
  obtain ⟨f, fd, F, hm, hk, hb⟩ := D.ok
  exact pe_call F hr hg hm hk hb .nil pass0 ha hdb he hpl
theorem callD0 (D : DOk X.prog X.w X.K X.mg X.base CX0 x k ps sp) (hr : Room k X.A) (hg : Gl X x := by rfl) (hdb : (x == ("__debug__" : Str)) = false := by decide) :
    PE X (.Call (.Name x p) [] [] pos) (tCall sp [] E0 tNil) := by
  obtain ⟨f, fd, F, hm, hk, hb⟩ := D.ok
  exact pe_call0 F hr hg hm hk hb .nil pass0 hdb
end
/-- a def of the text, without defaults, as a datum of the head -/
abbrev FnP (K : PySem.W.Frag) (x q : Str) (st : Stmt) (f : Addr) (fd : FuncData) : Prop := FunD K x q (defArgs st) (defBody st) (defScope st) [] [] f fd
end Rd

/-! mathematics of law k01: plain Lean -/
namespace K01
def Prm (n : Int) : Prop := 2 ≤ n ∧ ∀ d : Int, 2 ≤ d → d * d ≤ n → n % d ≠ 0
theorem sq_up {d e : Int} (h0 : 0 ≤ e) (h : e ≤ d) : e * e ≤ d * d := Int.mul_le_mul h h h0 (by omega)
theorem sq_le {d : Int} (h : d * d ≤ 1000000) : d ≤ 1000 := by
  apply Int.not_lt.mp
  intro h2
  have h3 : (1001 : Int) * 1001 ≤ d * d := sq_up (e := 1001) (by omega) (by omega)
  omega
theorem sq_big {d : Int} (h : 1001 ≤ d) : (1002001 : Int) ≤ d * d := by
  have h3 : (1001 : Int) * 1001 ≤ d * d := sq_up (e := 1001) (by omega) h
  omega
/-- no divisor from 2 below d -/
def Clean (n d : Int) : Prop := ∀ e : Int, 2 ≤ e → e < d → n % e ≠ 0
theorem Clean.two (n : Int) : Clean n 2 := fun e h1 h2 => by omega
theorem Clean.next {n d : Int} (h : Clean n d) (hd : n % d ≠ 0) : Clean n (d + 1) := fun e h1 h2 => by
  by_cases q : e = d
  · rw [q]; exact hd
  · exact h e h1 (by omega)
theorem Clean.prm {n d : Int} (h2 : 2 ≤ n) (h : Clean n d) (hd : n < d * d) (h0 : 2 ≤ d) : Prm n := ⟨h2, fun e h1 h3 => by
  apply h e h1
  apply Int.not_le.mp
  intro h4
  have := sq_up (by omega : (0 : Int) ≤ d) h4
  omega⟩
theorem Prm.clean {n : Int} (h : Prm n) : Clean n n := fun e h1 h2 q => by
  -- e or its cofactor is at most the root
  obtain ⟨c, hc⟩ := Int.dvd_of_emod_eq_zero q
  by_cases k : e * e ≤ n
  · exact h.2 e h1 k q
  · have hn := h.1
    have c2 : 2 ≤ c := by
      apply Int.not_lt.mp
      intro z
      rcases (by omega : c ≤ 0 ∨ c = 1) with z1 | z1
      · have : e * c ≤ 0 := Int.mul_nonpos_of_nonneg_of_nonpos (by omega) z1
        omega
      · rw [z1] at hc; omega
    have cl : c < e := by
      apply Int.not_le.mp
      intro z
      have : e * e ≤ e * c := Int.mul_le_mul_of_nonneg_left z (by omega)
      omega
    have cc : c * c ≤ n := by
      have : c * c ≤ e * c := Int.mul_le_mul_of_nonneg_right (by omega) (by omega)
      omega
    exact h.2 c c2 cc (by rw [hc]; exact Int.mul_emod_left _ _)
theorem Prm.not {n d : Int} (h1 : 2 ≤ d) (h2 : d * d ≤ n) (h : n % d = 0) : ¬ Prm n := fun p => p.2 d h1 h2 h
theorem Prm.ge {n : Int} (h : Prm n) : 2 ≤ n := h.1
theorem prm_two : Prm 2 := ⟨by decide, fun d h1 h2 => by
  have := sq_up (e := 2) (by omega) h1
  omega⟩
theorem not4 : ¬ Prm 4 := Prm.not (d := 2) (by decide) (by decide) (by decide)
theorem not6 : ¬ Prm 6 := Prm.not (d := 2) (by decide) (by decide) (by decide)
/-! ### a factorisation -/
abbrev PE := Int × Int
def pw (q : PE) : Int := q.1 ^ q.2.toNat
def prod : List PE → Int
  | [] => 1
  | q :: r => pw q * prod r
theorem prod_app : ∀ l m : List PE, prod (l ++ m) = prod l * prod m
  | [], m => by show prod m = 1 * prod m; omega
  | q :: l, m => by show pw q * prod (l ++ m) = pw q * prod l * prod m; rw [prod_app l m, Int.mul_assoc]
theorem prod_snoc (l : List PE) (q : PE) : prod (l ++ [q]) = prod l * pw q := by
  rw [prod_app]; show prod l * (pw q * 1) = _; rw [Int.mul_one]
structure Fact (n : Int) (l : List PE) : Prop where
  pr : ∀ q ∈ l, Prm q.1 ∧ 1 ≤ q.2
  asc : l.Pairwise fun a b => a.1 < b.1
  eq : prod l = n
theorem pow_pos {p : Int} (h : 1 ≤ p) : ∀ n : Nat, 1 ≤ p ^ n
  | 0 => by rw [Int.pow_zero]; decide
  | n + 1 => by
    rw [Int.pow_succ]
    have a := pow_pos h n
    have : 1 * 1 ≤ p ^ n * p := Int.mul_le_mul a h (by omega) (by omega)
    omega
theorem pow_ge {p : Int} (h : 2 ≤ p) : ∀ n : Nat, (2 : Int) ^ n ≤ p ^ n
  | 0 => by rw [Int.pow_zero, Int.pow_zero]; decide
  | n + 1 => by
    rw [Int.pow_succ, Int.pow_succ]
    exact Int.mul_le_mul (pow_ge h n) h (by omega) (by have := pow_pos (p := p) (by omega) n; omega)
theorem pow_le_self {p : Int} (h : 1 ≤ p) {n : Nat} (hn : 1 ≤ n) : p ≤ p ^ n := by
  obtain ⟨k, rfl⟩ : ∃ k, n = k + 1 := ⟨n - 1, by omega⟩
  rw [Int.pow_succ]
  have a := pow_pos h k
  have : 1 * p ≤ p ^ k * p := Int.mul_le_mul_of_nonneg_right a (by omega)
  omega
theorem two_pow_mono {a b : Nat} (h : a ≤ b) : (2 : Int) ^ a ≤ 2 ^ b := by
  obtain ⟨k, rfl⟩ : ∃ k, b = a + k := ⟨b - a, by omega⟩
  rw [Int.pow_add]
  have h1 := pow_pos (p := 2) (by decide) a
  have h2 := pow_pos (p := 2) (by decide) k
  have : (2 : Int) ^ a * 1 ≤ 2 ^ a * 2 ^ k := Int.mul_le_mul_of_nonneg_left h2 (by omega)
  omega
section
variable {n : Int} {l : List PE}
theorem pw_pos {q : PE} (h : Prm q.1 ∧ 1 ≤ q.2) : 1 ≤ pw q := pow_pos (by have := h.1.1; omega) _
theorem prod_pos : ∀ {l : List PE}, (∀ q ∈ l, Prm q.1 ∧ 1 ≤ q.2) → 1 ≤ prod l
  | [], _ => by show (1 : Int) ≤ 1; omega
  | q :: r, h => by
    have a := pw_pos (h q List.mem_cons_self)
    have b := prod_pos (l := r) fun z hz => h z (List.mem_cons_of_mem _ hz)
    show 1 ≤ pw q * prod r
    have : 1 * 1 ≤ pw q * prod r := Int.mul_le_mul a b (by omega) (by omega)
    omega
theorem pw_le : ∀ {l : List PE}, (∀ q ∈ l, Prm q.1 ∧ 1 ≤ q.2) → ∀ q ∈ l, pw q ≤ prod l
  | [], _, _, h => by cases h
  | a :: r, h, q, hq => by
    have ha := pw_pos (h a List.mem_cons_self)
    have hr := prod_pos (l := r) fun z hz => h z (List.mem_cons_of_mem _ hz)
    show pw q ≤ pw a * prod r
    rcases List.mem_cons.mp hq with e | hq
    · rw [e]
      have : pw a * 1 ≤ pw a * prod r := Int.mul_le_mul_of_nonneg_left hr (by omega)
      omega
    · have ih := pw_le (l := r) (fun z hz => h z (List.mem_cons_of_mem _ hz)) q hq
      have : 1 * prod r ≤ pw a * prod r := Int.mul_le_mul_of_nonneg_right ha (by omega)
      omega
theorem Fact.le (F : Fact n l) {q : PE} (h : q ∈ l) : 2 ≤ q.1 ∧ q.1 ≤ n := by
  have h1 := F.pr q h
  have h2 := pw_le F.pr q h
  have h3 : q.1 ≤ pw q := pow_le_self (by have := h1.1.1; omega) (by have := h1.2; omega)
  have := F.eq
  exact ⟨h1.1.1, by omega⟩
theorem Fact.exp (F : Fact n l) (hn : n ≤ 1000000) {q : PE} (h : q ∈ l) : q.2 ≤ 20 := by
  have h1 := F.pr q h
  have h2 := pw_le F.pr q h
  have h3 : (2 : Int) ^ q.2.toNat ≤ pw q := pow_ge h1.1.1 _
  have := F.eq
  apply Int.not_lt.mp
  intro z
  have h4 : (2 : Int) ^ 20 ≤ 2 ^ q.2.toNat := two_pow_mono (by omega)
  have h5 : (2 : Int) ^ 20 = 1048576 := by decide
  omega
/-- eight ascending primes have a large product -/
theorem Fact.short (F : Fact n l) (hn : n ≤ 1000000) : l.length ≤ 7 := by
  match l, F with
  | [], _ => decide
  | [_], _ => simp
  | [_, _], _ => simp
  | [_, _, _], _ => simp
  | [_, _, _, _], _ => simp
  | [_, _, _, _, _], _ => simp
  | [_, _, _, _, _, _], _ => simp
  | [_, _, _, _, _, _, _], _ => simp
  | a :: b :: c :: d :: e :: f :: g :: h :: r, F =>
    exfalso
    have P := F.pr
    have A := F.asc
    have E := F.eq
    simp only [List.pairwise_cons, List.mem_cons, forall_eq_or_imp] at A P
    have ab := A.1.1
    have bc := A.2.1.1
    have cd := A.2.2.1.1
    have de := A.2.2.2.1.1
    have ef := A.2.2.2.2.1.1
    have fg := A.2.2.2.2.2.1.1
    have gh := A.2.2.2.2.2.2.1.1
    obtain ⟨pa, pb, pc, pd, pe, pf, pg, ph, pr⟩ := P
    have a2 : 2 ≤ a.1 := pa.1.1
    have b3 : 3 ≤ b.1 := by omega
    have c5 : 5 ≤ c.1 := by
      rcases (by omega : c.1 = 4 ∨ 5 ≤ c.1) with z | z
      · exact absurd (z ▸ pc.1) not4
      · exact z
    have d7 : 7 ≤ d.1 := by
      rcases (by omega : d.1 = 6 ∨ 7 ≤ d.1) with z | z
      · exact absurd (z ▸ pd.1) not6
      · exact z
    have up : ∀ {q : PE} {k : Int}, Prm q.1 ∧ 1 ≤ q.2 → k ≤ q.1 → k ≤ pw q := fun {q k} hq hk => by
      have : q.1 ≤ pw q := pow_le_self (by have := hq.1.1; omega) (by have := hq.2; omega)
      omega
    have r1 : 1 ≤ prod r := prod_pos pr
    have mm : ∀ {x y a b : Int}, 0 ≤ a → 0 ≤ b → a ≤ x → b ≤ y → a * b ≤ x * y := fun {x y a b} h0 h1 h2 h3 => Int.mul_le_mul h2 h3 h1 (by omega)
    have e1 : prod (a :: b :: c :: d :: e :: f :: g :: h :: r) = pw a * (pw b * (pw c * (pw d * (pw e * (pw f * (pw g * (pw h * prod r))))))) := rfl
    have h8 := mm (a := 11) (b := 1) (by decide) (by decide) (up ph (by omega)) r1
    have h7 := mm (a := 10) (b := 11) (by decide) (by decide) (up pg (by omega)) (by omega : 11 ≤ pw h * prod r)
    have h6 := mm (a := 9) (b := 110) (by decide) (by decide) (up pf (by omega)) (by omega : 110 ≤ pw g * (pw h * prod r))
    have h5 := mm (a := 8) (b := 990) (by decide) (by decide) (up pe (by omega)) (by omega : 990 ≤ pw f * (pw g * (pw h * prod r)))
    have h4 := mm (a := 7) (b := 7920) (by decide) (by decide) (up pd d7) (by omega : 7920 ≤ pw e * (pw f * (pw g * (pw h * prod r))))
    have h3 := mm (a := 5) (b := 55440) (by decide) (by decide) (up pc c5) (by omega : 55440 ≤ pw d * (pw e * (pw f * (pw g * (pw h * prod r)))))
    have h2 := mm (a := 3) (b := 277200) (by decide) (by decide) (up pb b3) (by omega : 277200 ≤ pw c * (pw d * (pw e * (pw f * (pw g * (pw h * prod r))))))
    have h1 := mm (a := 2) (b := 831600) (by decide) (by decide) (up pa a2) (by omega : 831600 ≤ pw b * (pw c * (pw d * (pw e * (pw f * (pw g * (pw h * prod r)))))))
    omega
end
/-! ### the loop of factored: l found so far, rest, the divisor -/
structure Mid (n : Int) (l : List PE) (rest d : Int) : Prop where
  pr : ∀ q ∈ l, Prm q.1 ∧ 1 ≤ q.2
  asc : l.Pairwise fun a b => a.1 < b.1
  below : ∀ q ∈ l, q.1 < d
  r1 : 1 ≤ rest
  eq : prod l * rest = n
  clean : Clean rest d
theorem Mid.start {n : Int} (h : 1 ≤ n) : Mid n [] n 2 := ⟨fun _ h => (nomatch h), List.Pairwise.nil, fun _ h => (nomatch h), h, (by show 1 * n = n; omega), Clean.two n⟩
theorem Mid.le {n rest d : Int} {l : List PE} (M : Mid n l rest d) : rest ≤ n := by
  have h := prod_pos M.pr
  have : 1 * rest ≤ prod l * rest := Int.mul_le_mul_of_nonneg_right h (by have := M.r1; omega)
  have := M.eq
  omega
theorem Mid.done {n rest d : Int} {l : List PE} (M : Mid n l rest d) (h : ¬ 1 < rest) : Fact n l := ⟨M.pr, M.asc, by
  have k := M.eq
  have h1 := M.r1
  have e : rest = 1 := by omega
  rw [e, Int.mul_one] at k
  exact k⟩
theorem clean_ge {r d : Int} (c : Clean r d) (h : 1 < r) : d ≤ r := by
  apply Int.not_lt.mp
  intro z
  exact c r (by omega) z (Int.emod_self)
theorem Mid.last {n rest d : Int} {l : List PE} (M : Mid n l rest d) (h : 1 < rest) (hd : rest < d * d) (d2 : 2 ≤ d) : Fact n (l ++ [(rest, 1)]) := by
  have pr : Prm rest := Clean.prm (by omega) M.clean hd d2
  have ge := clean_ge M.clean h
  refine ⟨fun q hq => ?_, ?_, ?_⟩
  · rcases List.mem_append.mp hq with hq | hq
    · exact M.pr q hq
    · rw [List.mem_singleton.mp hq]; exact ⟨pr, Int.le_refl _⟩
  · refine List.pairwise_append.mpr ⟨M.asc, List.pairwise_singleton _ _, fun a ha b hb => ?_⟩
    rw [List.mem_singleton.mp hb]
    have := M.below a ha
    show a.1 < rest
    omega
  · rw [prod_snoc]
    have e : pw (rest, 1) = rest := by
      show rest ^ (1 : Int).toNat = rest
      show rest ^ 1 = rest
      exact Int.pow_one _
    rw [e]; exact M.eq
/-- within the division by d: e times so far -/
structure Div (n : Int) (l : List PE) (rest d e : Int) : Prop where
  pr : ∀ q ∈ l, Prm q.1 ∧ 1 ≤ q.2
  asc : l.Pairwise fun a b => a.1 < b.1
  below : ∀ q ∈ l, q.1 < d
  r1 : 1 ≤ rest
  e0 : 0 ≤ e
  eq : prod l * (d ^ e.toNat * rest) = n
  clean : Clean rest d
  pd : 1 ≤ e → Prm d
theorem Mid.div {n rest d : Int} {l : List PE} (M : Mid n l rest d) : Div n l rest d 0 := ⟨M.pr, M.asc, M.below, M.r1, Int.le_refl _, by show prod l * (d ^ 0 * rest) = n; rw [Int.pow_zero, Int.one_mul]; exact M.eq, M.clean, fun h => by omega⟩
theorem prime_of_clean {r d : Int} (c : Clean r d) (d2 : 2 ≤ d) (h : r % d = 0) : Prm d := ⟨d2, fun e h1 h2 q => by
  have lt : e < d := by
    have : 2 * e ≤ e * e := Int.mul_le_mul_of_nonneg_right h1 (by omega)
    omega
  refine c e h1 lt ?_
  obtain ⟨a, ha⟩ := Int.dvd_of_emod_eq_zero h
  obtain ⟨b, hb⟩ := Int.dvd_of_emod_eq_zero q
  rw [ha, hb, Int.mul_assoc]
  exact Int.mul_emod_right _ _⟩
theorem clean_div {r d c : Int} (h : Clean (c * r) d) : Clean r d := fun e h1 h2 q => by
  refine h e h1 h2 ?_
  obtain ⟨a, ha⟩ := Int.dvd_of_emod_eq_zero q
  rw [ha, Int.mul_left_comm]
  exact Int.mul_emod_right _ _
theorem Div.next {n rest d e : Int} {l : List PE} (M : Div n l rest d e) (d2 : 2 ≤ d) (h : rest % d = 0) : Div n l (rest / d) d (e + 1) ∧ rest / d < rest := by
  have hr : d * (rest / d) = rest := Int.mul_ediv_cancel' (Int.dvd_of_emod_eq_zero h)
  have r1 := M.r1
  have q1 : 1 ≤ rest / d := by
    apply Int.not_lt.mp
    intro z
    have : d * (rest / d) ≤ 0 := Int.mul_nonpos_of_nonneg_of_nonpos (by omega) (by omega)
    omega
  have lt : rest / d < rest := by
    have : 2 * (rest / d) ≤ d * (rest / d) := Int.mul_le_mul_of_nonneg_right d2 (by omega)
    omega
  have e0 := M.e0
  refine ⟨⟨M.pr, M.asc, M.below, q1, by omega, ?_, clean_div (c := d) (by rw [hr]; exact M.clean), fun _ => prime_of_clean M.clean d2 h⟩, lt⟩
  have k : (e + 1).toNat = e.toNat + 1 := by omega
  rw [k, Int.pow_succ, Int.mul_assoc, hr]
  exact M.eq
/-- the division is over -/
theorem Div.out {n rest d e : Int} {l : List PE} (M : Div n l rest d e) (h : rest % d ≠ 0) (he : 0 < e) : Mid n (l ++ [(d, e)]) rest (d + 1) := by
  refine ⟨fun q hq => ?_, ?_, fun q hq => ?_, M.r1, ?_, M.clean.next h⟩
  · rcases List.mem_append.mp hq with hq | hq
    · exact M.pr q hq
    · rw [List.mem_singleton.mp hq]; exact ⟨M.pd (by omega), by show (1 : Int) ≤ e; omega⟩
  · refine List.pairwise_append.mpr ⟨M.asc, List.pairwise_singleton _ _, fun a ha b hb => ?_⟩
    rw [List.mem_singleton.mp hb]
    exact M.below a ha
  · rcases List.mem_append.mp hq with hq | hq
    · have := M.below q hq; omega
    · rw [List.mem_singleton.mp hq]; show d < d + 1; omega
  · rw [prod_snoc, Int.mul_assoc]; exact M.eq
theorem Div.out0 {n rest d e : Int} {l : List PE} (M : Div n l rest d e) (h : rest % d ≠ 0) (he : ¬ 0 < e) : Mid n l rest (d + 1) := by
  have e0 : e = 0 := by have := M.e0; omega
  subst e0
  refine ⟨M.pr, M.asc, fun q hq => by have := M.below q hq; omega, M.r1, ?_, M.clean.next h⟩
  have k := M.eq
  have k2 : (0 : Int).toNat = 0 := rfl
  rw [k2, Int.pow_zero, Int.one_mul] at k
  exact k
theorem Div.le {n rest d e : Int} {l : List PE} (M : Div n l rest d e) (d2 : 2 ≤ d) : rest ≤ n := by
  have h := prod_pos M.pr
  have h2 : 1 ≤ d ^ e.toNat := pow_pos (by omega) _
  have r1 := M.r1
  have a : 1 * rest ≤ d ^ e.toNat * rest := Int.mul_le_mul_of_nonneg_right h2 (by omega)
  have b : 1 * (d ^ e.toNat * rest) ≤ prod l * (d ^ e.toNat * rest) := Int.mul_le_mul_of_nonneg_right h (by omega)
  have := M.eq
  omega
theorem one_le_mul {a b : Int} (h : 1 ≤ a) (h2 : 1 ≤ b) : 1 ≤ a * b := by
  have : 1 * 1 ≤ a * b := Int.mul_le_mul h h2 (by omega) (by omega)
  omega
theorem div_le {n d : Int} (h : 1 ≤ d) (h2 : d ≤ n) : 1 ≤ n / d ∧ n / d ≤ n ∧ d * (n / d) ≤ n := by
  refine ⟨?_, Int.ediv_le_self _ (by omega), Int.mul_ediv_self_le (by omega)⟩
  have := (Int.le_ediv_iff_mul_le (a := 1) (b := n) (c := d) (by omega)).mpr (by omega)
  exact this
end K01

set_option Elab.async false
set_option linter.all false
set_option maxRecDepth 100000
set_option maxHeartbeats 4000000
namespace K01
open PySem L2 Rd
def top (i : Nat) : Stmt := PySem.Challenge.pw_stepsvanish_k01_numbers_factored.main.body.getD i (.Pass ⟨0, 0, 0, 0⟩)
local macro_rules | `(tactic| walk_at "st1") => `(tactic| with_reducible first
  | refine' Rd.seq ?_ | refine' Rd.nxt ?_ | refine' Rd.asg ?_ | refine' Rd.nm ?_ | refine' Rd.con ?_ | refine' Rd.op ?_ | refine' Rd.i0 ?_ | refine' Rd.un ?_ | refine' Rd.u0 ?_
  | refine' Rd.eqI ?_ | refine' Rd.neI ?_ | refine' Rd.eqB ?_ | refine' Rd.tst ?_ | refine' Rd.tB_ ?_ | refine' Rd.exb ?_ | refine' Rd.ifS ?_ | refine' Rd.ret ?_ | refine' Rd.retN ?_ | refine' Rd.drop ?_
  | refine' Rd.nil ?_ | refine' Rd.cons ?_ | refine' Rd.cb ?_ | refine' Rd.call ?_ | refine' Rd.andT ?_ | refine' Rd.orT ?_ | refine' Rd.notT ?_ | refine' Rd.andV ?_ | refine' Rd.orV ?_ | refine' Rd.notV ?_ | refine' Rd.chain ?_
  | refine' Rd.lst ?_ | refine' Rd.tup ?_ | refine' Rd.for_ ?_ | refine' Rd.rng1 ?_ | refine' Rd.rng2 ?_ | refine' Rd.itl ?_ | refine' Rd.itt ?_ | refine' Rd.sub ?_
  | refine' Rd.int1 ?_ | refine' Rd.ex1 ?_ | refine' Rd.ex2 ?_)
local macro_rules | `(tactic| walk_at "st") => `(tactic| repeat (first | walk_at "st1" | ((with_reducible refine' Rd.var ?hv ?_); (case hv => rfl))))
local macro_rules | `(tactic| walk_at "sj1") => `(tactic| with_reducible first
  | refine' Rd.seqA ?_ | refine' Rd.seqD ?_ | refine' Rd.seqF ?_ | refine' Rd.seqW ?_ | refine' Rd.nxt ?_ | refine' Rd.asg ?_ | refine' Rd.nm ?_ | refine' Rd.con ?_ | refine' Rd.op ?_ | refine' Rd.i0 ?_ | refine' Rd.un ?_ | refine' Rd.u0 ?_
  | refine' Rd.eqI ?_ | refine' Rd.neI ?_ | refine' Rd.eqB ?_ | refine' Rd.tst ?_ | refine' Rd.tB_ ?_ | refine' Rd.exb ?_ | refine' Rd.ifS ?_ | refine' Rd.ret ?_ | refine' Rd.retN ?_ | refine' Rd.drop ?_
  | refine' Rd.nil ?_ | refine' Rd.cons ?_ | refine' Rd.cb ?_ | refine' Rd.call ?_ | refine' Rd.andT ?_ | refine' Rd.orT ?_ | refine' Rd.notT ?_ | refine' Rd.andV ?_ | refine' Rd.orV ?_ | refine' Rd.notV ?_ | refine' Rd.chain ?_
  | refine' Rd.lst ?_ | refine' Rd.tup ?_ | refine' Rd.for_ ?_ | refine' Rd.rng1 ?_ | refine' Rd.rng2 ?_ | refine' Rd.itl ?_ | refine' Rd.itt ?_ | refine' Rd.sub ?_
  | refine' Rd.int1 ?_ | refine' Rd.ex1 ?_ | refine' Rd.ex2 ?_)
local macro_rules | `(tactic| walk_at "sj") => `(tactic| repeat (first | walk_at "sj1" | ((with_reducible refine' Rd.var ?hv ?_); (case hv => rfl))))
structure Txt (mg : Str → Option Value) : Prop where
  len : mg "len" = none
  abs : mg "abs" = none
  int : mg "int" = none
  bool : mg "bool" = none
  list : mg "list" = none
  tuple : mg "tuple" = none
  range : mg "range" = none
  min : mg "min" = none
  isinstance : mg "isinstance" = none
/-! ### promises -/
def sp_prime : Sp := fun vs H Q _ => ∃ n : Int, vs = [.int n] ∧ n ≤ 1000000 ∧ ∀ b : Bool, (b = true ↔ Prm n) → Q (.bl b) H
/-- a list of pairs: the tuples' addresses with what stands there -/
def Prs (H : Hp) (ts : List Addr) (l : List PE) : Prop := ts.length = l.length ∧ ∀ (i : Nat) (t : Addr) (q : PE), ts[i]? = some t → l[i]? = some q → H t = some (.tup [.int q.1, .int q.2])
theorem Prs.nil {H : Hp} : Prs H [] [] := ⟨rfl, fun i t q h => by simp at h⟩
theorem Prs.same {H H' : Hp} {ts : List Addr} {l : List PE} (h : Prs H ts l) (e : Same H H') : Prs H' ts l := ⟨h.1, fun i t q a b => e _ _ (h.2 i t q a b)⟩
theorem Prs.but {H H' : Hp} {ts : List Addr} {l : List PE} {p : Addr} {xs : List V} (h : Prs H ts l) (hp : H p = some (.lst xs)) (e : But p H H') : Prs H' ts l := ⟨h.1, fun i t q a b => by
  have z := h.2 i t q a b
  exact e _ _ (ne_of z hp (by intro z; cases z)) z⟩
theorem Prs.snoc {H : Hp} {ts : List Addr} {l : List PE} {t : Addr} {q : PE} (h : Prs H ts l) (ht : H t = some (.tup [.int q.1, .int q.2])) : Prs H (ts ++ [t]) (l ++ [q]) := by
  refine ⟨by rw [List.length_append, List.length_append, h.1]; rfl, fun i t' q' a b => ?_⟩
  by_cases c : i < ts.length
  · rw [List.getElem?_append_left c] at a
    rw [List.getElem?_append_left (by rw [← h.1]; exact c)] at b
    exact h.2 i t' q' a b
  · rw [List.getElem?_append_right (by omega)] at a
    rw [List.getElem?_append_right (by rw [← h.1]; omega), ← h.1] at b
    have e : i - ts.length = 0 := by
      apply Classical.byContradiction
      intro z
      rw [List.getElem?_eq_none (by simp; omega)] at a
      cases a
    rw [e] at a b
    cases a; cases b; exact ht
def sp_factored : Sp := fun vs H Q _ => ∃ n : Int, vs = [.int n] ∧ 1 ≤ n ∧ n ≤ 1000000 ∧
  ∀ (H' : Hp) (p : Addr) (ts : List Addr) (l : List PE), H p = none → Same H H' → H' p = some (.lst (ts.map V.ref)) → Prs H' ts l → Fact n l → Q (.ref p) H'
def Bag (H : Hp) (a : Addr) : Prop := ∃ x y : Int, H a = some (.lst [.int x, .int y]) ∧ 0 ≤ x ∧ 0 ≤ y ∧ y < 2147483648
def sp_take : Sp := fun vs H Q _ => ∃ (a : Addr) (n : Int), vs = [.ref a, .int n] ∧ 1 ≤ n ∧ n ≤ 4294967296 ∧ Bag H a ∧ ∀ (v : Int) (H' : Hp), 0 ≤ v → v < n → Bag H' a → But a H H' → Q (.int v) H'
def sp_bag (K : PySem.W.Frag) : Sp := fun vs H Q _ => ∃ (a : Addr) (ns : List Int) (k : Int), vs = [.ref a, .int k] ∧ SqL K H a (ns.map V.int) ∧ 0 ≤ k ∧ k ≤ 63 ∧ ∀ (p : Addr) (H' : Hp), H p = none → Same H H' → Bag H' p → Q (.ref p) H'
def sp_isint : Sp := fun vs H Q _ => ∃ n : Int, vs = [.int n] ∧ Q (.bl true) H
def sp_below : Sp := fun vs H Q _ => ∃ n : Int, vs = [.int n] ∧ 2 ≤ n ∧ n ≤ 1000000 ∧ ∀ v : Int, 2 ≤ v → v ≤ n → Q (.int v) H
def sp_number : Sp := fun vs H Q _ => ∃ a : Addr, vs = [.ref a] ∧ Bag H a ∧ ∀ (v : Int) (H' : Hp), 1 ≤ v → v ≤ 1000000 → Bag H' a → But a H H' → Q (.int v) H'
def sp_negative : Sp := fun vs H Q _ => ∃ a : Addr, vs = [.ref a] ∧ Bag H a ∧ ∀ (v : Int) (H' : Hp), v ≤ 0 → Bag H' a → But a H H' → Q (.int v) H'
def sp_holds : Sp := fun vs H Q _ => ∃ (p : Addr) (n : Int) (ts : List Addr) (l : List PE), vs = [.ref p, .int n] ∧ n ≤ 1000000 ∧ H p = some (.lst (ts.map V.ref)) ∧ Prs H ts l ∧ Fact n l ∧ Q (.bl true) H
def sp_judged : Sp := fun vs H Q _ => ∃ n : Int, vs = [.int n] ∧ n ≤ 1000000 ∧ Q (.bl true) H
def sp_law (K : PySem.W.Frag) : Sp := fun vs H Q _ => ∃ (a : Addr) (ns : List Int), vs = [.ref a] ∧ SqL K H a (ns.map V.int) ∧ ns.length ≤ 63 ∧ ∀ H', Q (.bl true) H'
theorem at0 {x : V} {xs : List V} : atI (x :: xs) 0 = some x := atI_nat (j := 0) rfl
theorem at1 {x y : V} {xs : List V} : atI (x :: y :: xs) 1 = some y := atI_nat (j := 1) rfl
theorem line2 {a b : V} : [a, b].length ≤ sizeLine := by show 2 ≤ sizeLine; decide
section
variable {P : Program} {w : World} {K : PySem.W.Frag} {mg : Str → Option Value} {base : Heap} {f : Addr} {fd : FuncData}
abbrev s_is_prime : Stmt := (top 2)
theorem sc_is_prime : FnScope ["number", "divisor"] ["number"] (defScope s_is_prime) := ⟨rfl, rfl, rfl, by decide +kernel, rfl, by decide +kernel, by decide +kernel⟩
theorem ok_is_prime (F : FnP K "is_prime" "is_prime" s_is_prime f fd) (T : Txt mg) : FnOk P w K mg base CX0 1 f fd ["number"] sp_prime := by
  refine F.ok sc_is_prime (fun vs H Q E h => ?_) (fun cdv A outer s H vs Q E hr h => ?_)
  · obtain ⟨n, rfl, _⟩ := h; rfl
  obtain ⟨n, rfl, hn, k⟩ := h
  refine ⟨_, PSs.nox (pss_cons (ps_if (pt_cmpR op_lt (pv 0) pe_int (nomark _))
  (pss_one (ps_ret pe_bl))
  pss_nil)
  (pss_cons (ps_set (i := 1) sc_is_prime.nd rfl (Or.inl rfl) pe_int)
  (pss_cons (ps_while PassesOwn.never (pt_cmpR op_le (pe_op op_mul (pv 1) (pv 1)) (pv 0) (nomark _))
  (pss_cons (ps_if (pt_cmpR op_eq (pe_op op_mod (pv 0) (pv 1)) pe_int (nomark _))
  (pss_one (ps_ret pe_bl))
  pss_nil)
  (pss_one (ps_set (i := 1) sc_is_prime.nd rfl (Or.inl rfl) (pe_op op_add (pv 1) pe_int)))))
  (pss_one (ps_ret pe_bl))))), ?_⟩
  walk_at "st"
  refine Rd.ite_d (fun h => ?_) (fun h => ?_)
  · walk_at "st"
    exact k false (by simp [Prm]; omega)
  walk_at "st"
  refine ⟨fun m σ H' => ∃ d : Int, σ = [some (.int n), some (.int d)] ∧ H' = H ∧ 2 ≤ d ∧ d ≤ 1001 ∧ Clean n d ∧ m = (1002 - d).toNat, ⟨_, 2, rfl, rfl, by decide, by decide, Clean.two n, rfl⟩, ?_⟩
  rintro m σ H' ⟨d, rfl, rfl, d2, d3, cl, rfl⟩
  walk_at "st"
  refine Rd.iC (.inl ⟨by omega, by omega⟩) ?_
  walk_at "st"
  refine Rd.ite_d (fun h2 => ⟨_, fun _ _ h => h, ?_⟩) (fun h2 => ?_)
  · have d4 := sq_le (by omega : d * d ≤ 1000000)
    walk_at "st"
    refine Rd.iC (by show 0 < d; omega) ?_
    walk_at "st"
    refine Rd.ite_d (fun h3 => ?_) (fun h3 => ?_)
    · walk_at "st"
      exact k false (by simp; exact Prm.not d2 h2 h3)
    · walk_at "st"
      exact ⟨_, by omega, d + 1, rfl, rfl, by omega, by omega, cl.next h3, rfl⟩
  · walk_at "st"
    exact k true (by simp; exact Clean.prm (by omega) cl (by omega) d2)
abbrev s_factored : Stmt := (top 1)
theorem sc_factored : FnScope ["number", "factors", "rest", "divisor", "exponent"] ["number"] (defScope s_factored) := ⟨rfl, rfl, rfl, by decide +kernel, rfl, by decide +kernel, by decide +kernel⟩
theorem ok_factored (F : FnP K "factored" "factored" s_factored f fd) (T : Txt mg) : FnOk P w K mg base CX0 1 f fd ["number"] sp_factored := by
  refine F.ok sc_factored (fun vs H Q E h => ?_) (fun cdv A outer s H vs Q E hr h => ?_)
  · obtain ⟨n, rfl, _⟩ := h; rfl
  obtain ⟨n, rfl, h1, hn, k⟩ := h
  refine ⟨_, PSs.nox (pss_cons (ps_set (i := 1) sc_factored.nd rfl (Or.inl rfl) (pe_lst pa_nil))
  (pss_cons (ps_set (i := 2) sc_factored.nd rfl (Or.inl rfl) (pv 0))
  (pss_cons (ps_set (i := 3) sc_factored.nd rfl (Or.inl rfl) pe_int)
  (pss_cons (ps_while PassesOwn.never (pt_cmpR op_le (pe_op op_mul (pv 3) (pv 3)) (pv 2) (nomark _))
  (pss_cons (ps_set (i := 4) sc_factored.nd rfl (Or.inl rfl) pe_int)
  (pss_cons (ps_while PassesOwn.never (pt_cmpR op_eq (pe_op op_mod (pv 2) (pv 3)) pe_int (nomark _))
  (pss_cons (ps_set (i := 2) sc_factored.nd rfl (Or.inl rfl) (pe_op op_fdivW (pv 2) (pv 3)))
  (pss_one (ps_set (i := 4) sc_factored.nd rfl (Or.inl rfl) (pe_op op_add (pv 4) pe_int)))))
  (pss_cons (ps_if (pt_cmpR op_gt (pv 4) pe_int (nomark _))
  (pss_one (ps_expr (pe_bm PySem.F.plainAttrs_list PySem.F.slot_list_append PySem.F.type_list_append mt_append (pv 1) (pa_cons (pe_tup (pa_cons (pv 3) (pa_cons (pv 4) pa_nil))) pa_nil))))
  pss_nil)
  (pss_one (ps_set (i := 3) sc_factored.nd rfl (Or.inl rfl) (pe_op op_add (pv 3) pe_int)))))))
  (pss_cons (ps_if (pt_cmpR op_gt (pv 2) pe_int (nomark _))
  (pss_one (ps_expr (pe_bm PySem.F.plainAttrs_list PySem.F.slot_list_append PySem.F.type_list_append mt_append (pv 1) (pa_cons (pe_tup (pa_cons (pv 2) (pa_cons pe_int pa_nil))) pa_nil))))
  pss_nil)
  (pss_one (ps_ret (pv 1)))))))), ?_⟩
  walk_at "st"
  refine ⟨Nat.zero_le _, fun p hp => ?_⟩
  walk_at "st"
  refine ⟨fun m σ H' => ∃ (d r : Int) (v : Option V) (ts : List Addr) (l : List PE), σ = [some (.int n), some (.ref p), some (.int r), some (.int d), v] ∧ Same H H' ∧ H' p = some (.lst (ts.map V.ref)) ∧ Prs H' ts l ∧ Mid n l r d ∧ 2 ≤ d ∧ d ≤ 1001 ∧ m = (1002 - d).toNat,
    ⟨_, 2, n, none, [], [], rfl, Rd.same_mk hp, upd_same, Prs.nil, Mid.start h1, by decide, by decide, rfl⟩, ?_⟩
  rintro m σ H' ⟨d, r, v, ts, l, rfl, e, hL, pr, M, d2, d3, rfl⟩
  have rn := M.le
  walk_at "st"
  refine Rd.iC (.inl ⟨by omega, by omega⟩) ?_
  walk_at "st"
  refine Rd.ite_d (fun h2 => ⟨_, fun _ _ h => h, ?_⟩) (fun h2 => ?_)
  · have d4 := sq_le (by omega : d * d ≤ 1000000)
    walk_at "st"
    refine ⟨fun m σ H2 => ∃ (r e : Int), σ = [some (.int n), some (.ref p), some (.int r), some (.int d), some (.int e)] ∧ H2 = H' ∧ Div n l r d e ∧ m = r.toNat, ⟨_, r, 0, rfl, rfl, M.div, rfl⟩, ?_⟩
    rintro m σ H2 ⟨r, x, rfl, rfl, dv, rfl⟩
    have rn := dv.le d2
    have r1 := dv.r1
    walk_at "st"
    refine Rd.iC (by show 0 < d; omega) ?_
    walk_at "st"
    refine Rd.ite_d (fun h3 => ⟨_, fun _ _ h => h, ?_⟩) (fun h3 => ?_)
    · obtain ⟨dv2, lt⟩ := dv.next d2 h3
      have r2 := dv2.r1
      walk_at "st"
      refine Rd.iC (wide_div (b := 64) (by omega) (by omega) (by decide) (by decide)) ?_
      walk_at "st"
      exact ⟨_, by omega, _, _, rfl, rfl, dv2, rfl⟩
    · walk_at "st"
      refine Rd.ite_d (fun h4 => ?_) (fun h4 => ?_)
      · refine ⟨_, rfl, .inl ⟨rfl, _, SqL.of hL⟩, ?_⟩
        walk_at "st"
        refine ⟨line2, fun t ht => ?_⟩
        have ntp : p ≠ t := ne_of_none hL ht
        walk_at "st"
        have M2 := dv.out h3 h4
        refine ⟨p, ts.map V.ref, _, rfl, rfl, by rw [upd_ne ntp]; exact hL, ?_, ?_⟩
        · rw [List.length_map, pr.1]
          have q := Fact.short (n := prod l) (l := l) ⟨dv.pr, dv.asc, rfl⟩ (by
            have a := prod_pos dv.pr
            have b := dv.eq
            have c : 1 ≤ d ^ x.toNat := pow_pos (by omega) _
            have c2 : 1 * 1 ≤ d ^ x.toNat * r := Int.mul_le_mul c r1 (by omega) (by omega)
            have c3 : prod l * 1 ≤ prod l * (d ^ x.toNat * r) := Int.mul_le_mul_of_nonneg_left (by omega) (by omega)
            omega)
          exact Nat.lt_of_le_of_lt q (by decide)
        · walk_at "st"
          refine ⟨_, ?_, d + 1, r, _, ts ++ [t], l ++ [(d, x)], rfl, ?_, ?_, ?_, M2, by omega, by omega, rfl⟩
          · omega
          · exact Rd.same_mut (Rd.same_add e ht) hp
          · rw [upd_same, List.map_append]; rfl
          · refine Prs.snoc ((pr.same (Rd.same_mk ht)).but (p := p) (xs := ts.map V.ref) (by rw [upd_ne ntp]; exact hL) Rd.But.put) ?_
            rw [upd_ne ntp.symm]; exact upd_same
      · walk_at "st"
        exact ⟨_, by omega, d + 1, r, _, ts, l, rfl, e, hL, pr, dv.out0 h3 h4, by omega, by omega, rfl⟩
  · walk_at "st"
    refine Rd.ite_d (fun h4 => ?_) (fun h4 => ?_)
    · walk_at "st"
      refine ⟨_, rfl, .inl ⟨rfl, _, SqL.of hL⟩, ?_⟩
      walk_at "st"
      refine ⟨line2, fun t ht => ?_⟩
      have ntp : p ≠ t := ne_of_none hL ht
      walk_at "st"
      have F2 := M.last h4 (by omega) d2
      refine ⟨p, ts.map V.ref, _, rfl, rfl, by rw [upd_ne ntp]; exact hL, ?_, ?_⟩
      · rw [List.length_map, pr.1]
        have q := F2.short hn
        rw [List.length_append, List.length_singleton] at q
        exact Nat.lt_of_le_of_lt (by omega : l.length ≤ 7) (by decide)
      · walk_at "st"
        refine k _ p (ts ++ [t]) (l ++ [(r, 1)]) hp (Rd.same_mut (Rd.same_add e ht) hp) ?_ ?_ F2
        · rw [upd_same, List.map_append]; rfl
        · refine Prs.snoc ((pr.same (Rd.same_mk ht)).but (p := p) (xs := ts.map V.ref) (by rw [upd_ne ntp]; exact hL) Rd.But.put) ?_
          rw [upd_ne ntp.symm]; exact upd_same
    · walk_at "st"
      exact k _ p ts l hp e hL pr (M.done h4)
abbrev s__law_bag : Stmt := (top 4)
theorem sc__law_bag : FnScope ["script", "k", "cell"] ["script", "k"] (defScope s__law_bag) := ⟨rfl, rfl, rfl, by decide +kernel, rfl, by decide +kernel, by decide +kernel⟩
theorem ok_bag (F : FnP K "_law_bag" "_law_bag" s__law_bag f fd) (T : Txt mg) : FnOk P w K mg base CX0 1 f fd ["script", "k"] (sp_bag K) := by
  refine F.ok sc__law_bag (fun vs H Q E h => ?_) (fun cdv A outer s H vs Q E hr h => ?_)
  · obtain ⟨_, _, _, rfl, _⟩ := h; rfl
  obtain ⟨a, ns, i, rfl, hS, i0, i1, k⟩ := h
  refine ⟨_, PSs.nox (pss_cons (ps_set (i := 2) sc__law_bag.nd rfl (Or.inl rfl) pe_int)
  (pss_cons (ps_if (pt_cmpR op_lt (pv 1) (pe_callB call_len_seq rfl T.len PySem.boot_len (pa_cons (pv 0) pa_nil)) (nomark _))
  (pss_one (ps_set (i := 2) sc__law_bag.nd rfl (Or.inl rfl) (pe_ix ix_list (pv 0) (pv 1) (fun _ _ => rfl))))
  pss_nil)
  (pss_cons (ps_if (pt_cmpR op_ge (pe_callB call_abs rfl T.abs (by decide +kernel) (pa_cons (pv 2) pa_nil)) (pe_op op_pow pe_int pe_int) (nomark _))
  (pss_one (ps_ret (pe_lst (pa_cons (pe_callB call_abs rfl T.abs (by decide +kernel) (pa_cons (pv 2) pa_nil)) (pa_cons (pe_op op_mod (pe_callTy call_int1 rfl T.int (by decide +kernel) (pa_cons (pe_callB call_abs rfl T.abs (by decide +kernel) (pa_cons (pv 2) pa_nil)) pa_nil)) pe_int) pa_nil)))))
  pss_nil)
  (pss_one (ps_ret (pe_lst (pa_cons pe_int (pa_cons (pe_op op_mod (pe_callTy call_int1 rfl T.int (by decide +kernel) (pa_cons (pe_op op_add (pe_op op_mul (pv 2) pe_int) (pe_op op_mul pe_int (pe_op op_add (pv 1) pe_int))) pa_nil)) pe_int) pa_nil)))))))), ?_⟩
  walk_at "sj"
  with_reducible refine Rd.seqJ (fun σ' H' => ∃ c : Int, σ' = [some (.ref a), some (.int i), some (.int c)] ∧ H' = H) ?_ fun N hN => ?_
  · rintro σ' H' ⟨c, rfl, rfl⟩
    walk_at "st"
    refine Rd.iC ⟨by decide, by decide, by decide⟩ ?_
    walk_at "st"
    refine Rd.ite_d (fun h1 => ?_) (fun h1 => ?_)
    · walk_at "st"
      refine Rd.iC (by show (0 : Int) < 2147483629; decide) ?_
      walk_at "st"
      refine ⟨line2, fun p hp => k p _ hp (Rd.same_mk hp) ⟨_, _, upd_same, ?_, ?_, ?_⟩⟩
      · split <;> omega
      · exact Int.emod_nonneg _ (by decide)
      · exact Int.lt_trans (Int.emod_lt_of_pos _ (by decide)) (by decide)
    · walk_at "st"
      refine Rd.iC (.inr ⟨by decide, by decide⟩) ?_
      walk_at "st"
      refine Rd.iC (.inl ⟨by decide, by decide⟩) ?_
      walk_at "st"
      refine Rd.iC (by show (0 : Int) < 2147483647; decide) ?_
      walk_at "st"
      refine ⟨line2, fun p hp => k p _ hp (Rd.same_mk hp) ⟨_, _, upd_same, by decide, ?_, ?_⟩⟩
      · exact Int.emod_nonneg _ (by decide)
      · exact Int.lt_trans (Int.emod_lt_of_pos _ (by decide)) (by decide)
  walk_at "sj"
  refine Rd.len1 (.inl hS) ?_
  walk_at "sj"
  refine Rd.ite_d (fun h1 => ?_) (fun h1 => ?_)
  · rw [List.length_map] at h1
    obtain ⟨c, hc⟩ : ∃ c, ns[i.toNat]? = some c := ⟨ns[i.toNat]'(by omega), List.getElem?_eq_getElem (by omega)⟩
    walk_at "st"
    refine Rd.ixL hS (at_of (j := i.toNat) (v := .int c) (by omega) (by rw [List.getElem?_map, hc]; rfl)) ?_
    walk_at "st"
    exact hN _ _ ⟨c, rfl, rfl⟩
  · walk_at "st"
    exact hN _ _ ⟨0, rfl, rfl⟩
abbrev s__law_take : Stmt := (top 5)
theorem sc__law_take : FnScope ["bag", "size", "digit"] ["bag", "size"] (defScope s__law_take) := ⟨rfl, rfl, rfl, by decide +kernel, rfl, by decide +kernel, by decide +kernel⟩
theorem ok_take (F : FnP K "_law_take" "_law_take" s__law_take f fd) (T : Txt mg) : FnOk P w K mg base CX0 1 f fd ["bag", "size"] sp_take := by
  refine F.ok sc__law_take (fun vs H Q E h => ?_) (fun cdv A outer s H vs Q E hr h => ?_)
  · obtain ⟨_, _, rfl, _⟩ := h; rfl
  obtain ⟨a, n, rfl, n1, n2, ⟨x, y, hL, x0, y0, y1⟩, k⟩ := h
  refine ⟨_, PSs.nox (pss_cons (ps_if (pt_cmpR op_ge (pe_ix ix_list (pv 0) pe_int (fun _ _ => rfl)) (pv 1) (nomark _))
  (pss_cons (ps_set (i := 2) sc__law_take.nd rfl (Or.inl rfl) (pe_op op_mod (pe_callTy call_int1 rfl T.int (by decide +kernel) (pa_cons (pe_ix ix_list (pv 0) pe_int (fun _ _ => rfl)) pa_nil)) (pv 1)))
  (pss_cons (ps_asg (pe_op op_fdivW (pe_ix ix_list (pv 0) pe_int (fun _ _ => rfl)) (pv 1)) (pg_sub (pv 0) pe_int set_list))
  (pss_one (ps_ret (pv 2)))))
  pss_nil)
  (pss_cons (ps_asg (pe_op op_mod (pe_callTy call_int1 rfl T.int (by decide +kernel) (pa_cons (pe_op op_add (pe_op op_mul (pe_ix ix_list (pv 0) pe_int (fun _ _ => rfl)) pe_int) pe_int) pa_nil)) pe_int) (pg_sub (pv 0) pe_int set_list))
  (pss_cons (ps_asg (pe_op op_mod (pe_callTy call_int1 rfl T.int (by decide +kernel) (pa_cons (pe_op op_add (pe_op op_mul (pe_ix ix_list (pv 0) pe_int (fun _ _ => rfl)) pe_int) pe_int) pa_nil)) pe_int) (pg_sub (pv 0) pe_int set_list))
  (pss_one (ps_ret (pe_op op_mod (pe_callTy call_int1 rfl T.int (by decide +kernel) (pa_cons (pe_op op_fdivW (pe_ix ix_list (pv 0) pe_int (fun _ _ => rfl)) pe_int) pa_nil)) (pv 1))))))), ?_⟩
  walk_at "st"
  refine Rd.ixL (SqL.of hL) at0 ?_
  walk_at "st"
  refine Rd.ite_d (fun h1 => ?_) (fun h1 => ?_)
  · walk_at "st"
    refine Rd.ixL (SqL.of hL) at0 ?_
    walk_at "st"
    refine Rd.iC (by show 0 < n; omega) ?_
    walk_at "st"
    refine Rd.ixL (SqL.of hL) at0 ?_
    walk_at "st"
    refine Rd.iC (wide_div (b := 64) (by omega) (by omega) (by decide) (by decide)) ?_
    walk_at "st"
    refine Rd.setL hL (j := 0) rfl ?_
    walk_at "st"
    refine k _ _ (Int.emod_nonneg _ (by omega)) (Int.emod_lt_of_pos _ (by omega)) ⟨_, _, upd_same, ?_, y0, y1⟩ Rd.But.put
    exact Int.ediv_nonneg x0 (by omega)
  · walk_at "st"
    refine Rd.ixL (SqL.of hL) at1 ?_
    walk_at "st"
    refine Rd.iC (.inr ⟨by decide, by decide⟩) ?_
    walk_at "st"
    refine Rd.iC (by show (0 : Int) < 2147483647; decide) ?_
    walk_at "st"
    refine Rd.setL hL (j := 1) rfl ?_
    walk_at "st"
    have z0 := Int.emod_nonneg (y * 48271 + 11) (b := 2147483647) (by decide)
    have z1 := Int.emod_lt_of_pos (y * 48271 + 11) (b := 2147483647) (by decide)
    generalize (y * 48271 + 11) % 2147483647 = y2 at z0 z1
    refine Rd.ixL (xs := [.int x, .int y2]) (SqL.of upd_same) at1 ?_
    walk_at "st"
    refine Rd.iC (.inr ⟨by decide, by decide⟩) ?_
    walk_at "st"
    refine Rd.iC (by show (0 : Int) < 2147483629; decide) ?_
    walk_at "st"
    refine Rd.setL (xs := [.int x, .int y2]) upd_same (j := 1) rfl ?_
    walk_at "st"
    have w0 := Int.emod_nonneg (y2 * 69621 + 1013) (b := 2147483629) (by decide)
    have w1 := Int.emod_lt_of_pos (y2 * 69621 + 1013) (b := 2147483629) (by decide)
    generalize (y2 * 69621 + 1013) % 2147483629 = y3 at w0 w1
    refine Rd.ixL (xs := [.int x, .int y3]) (SqL.of upd_same) at1 ?_
    walk_at "st"
    refine Rd.iC (wide_div (b := 64) (by decide) (by decide) (by decide) (by decide)) ?_
    walk_at "st"
    refine Rd.iC (by show 0 < n; omega) ?_
    exact k _ _ (Int.emod_nonneg _ (by omega)) (Int.emod_lt_of_pos _ (by omega)) ⟨x, y3, upd_same, x0, w0, by omega⟩ (Rd.But.put.trans Rd.But.put)
abbrev s__law_is_integer : Stmt := (top 6)
theorem sc__law_is_integer : FnScope ["told"] ["told"] (defScope s__law_is_integer) := ⟨rfl, rfl, rfl, by decide +kernel, rfl, by decide +kernel, by decide +kernel⟩
theorem ok_isint (F : FnP K "_law_is_integer" "_law_is_integer" s__law_is_integer f fd) (T : Txt mg) : FnOk P w K mg base CX0 1 f fd ["told"] sp_isint := by
  refine F.ok sc__law_is_integer (fun vs H Q E h => ?_) (fun cdv A outer s H vs Q E hr h => ?_)
  · obtain ⟨_, rfl, _⟩ := h; rfl
  obtain ⟨n, rfl, k⟩ := h
  refine ⟨_, PSs.nox (pss_one (ps_ret (pe_and (pe_callB call_isi rfl T.isinstance (by decide +kernel) (pa_cons (pv 0) (pa_cons (pe_bltn rfl T.int (by decide +kernel) (RelV_ty "int")) pa_nil))) (pe_one (pe_not (pe_callB call_isi rfl T.isinstance (by decide +kernel) (pa_cons (pv 0) (pa_cons (pe_bltn rfl T.bool (by decide +kernel) (RelV_ty "bool")) pa_nil)))))))), ?_⟩
  walk_at "st"
  refine Rd.isi (.base (.int n)) (Rd.kit_ty (v := true) (by decide +kernel)) ?_
  walk_at "st"
  refine (if_pos rfl).mpr ?_
  walk_at "st"
  refine Rd.isi (.base (.int n)) (Rd.kit_ty (b := "bool") (v := false) (by decide +kernel)) ?_
  walk_at "st"
  exact k
abbrev s__law_prime : Stmt := (top 7)
theorem sc__law_prime : FnScope ["number", "divisor"] ["number"] (defScope s__law_prime) := ⟨rfl, rfl, rfl, by decide +kernel, rfl, by decide +kernel, by decide +kernel⟩
theorem ok_law_prime (F : FnP K "_law_prime" "_law_prime" s__law_prime f fd) (T : Txt mg) : FnOk P w K mg base CX0 1 f fd ["number"] sp_prime := by
  refine F.ok sc__law_prime (fun vs H Q E h => ?_) (fun cdv A outer s H vs Q E hr h => ?_)
  · obtain ⟨n, rfl, _⟩ := h; rfl
  obtain ⟨n, rfl, hn, k⟩ := h
  refine ⟨_, PSs.nox (pss_cons (ps_if (pt_cmpR op_lt (pv 0) pe_int (nomark _))
  (pss_one (ps_ret pe_bl))
  pss_nil)
  (pss_cons (ps_for PassesOwn.never rfl (pi_range2 rfl T.range (pa_cons pe_int (pa_cons pe_int pa_nil))) (pg_name (i := 1) sc__law_prime.nd rfl (Or.inl rfl))
  (pss_cons (ps_if (pt_cmpR op_gt (pe_op op_mul (pv 1) (pv 1)) (pv 0) (nomark _))
  (pss_one (ps_ret pe_bl))
  pss_nil)
  (pss_one (ps_if (pt_cmpR op_eq (pe_op op_mod (pe_callTy call_int1 rfl T.int (by decide +kernel) (pa_cons (pv 0) pa_nil)) (pv 1)) pe_int (nomark _))
  (pss_one (ps_ret pe_bl))
  pss_nil))))
  (pss_one (ps_ret pe_bl)))), ?_⟩
  walk_at "st"
  refine Rd.ite_d (fun h => ?_) (fun h => ?_)
  · walk_at "st"
    exact k false (by simp [Prm]; omega)
  walk_at "st"
  refine ⟨⟨by decide, by decide, by decide, by decide⟩, ?_⟩
  refine for_range (lo := 2) (n := 999) (fun i σ H' => ∃ v, σ = [some (.int n), v] ∧ H' = H ∧ Clean n (2 + (i : Nat)) ∧ ∀ e : Int, 2 ≤ e → e < 2 + (i : Nat) → e * e ≤ n) ⟨_, rfl, rfl, fun e h1 h2 => by omega, fun e h1 h2 => by omega⟩ ?_ ?_
  · rintro i σ H' hi ⟨v, rfl, rfl, cl, sm⟩
    walk_at "st"
    refine Rd.iC (.inl ⟨by omega, by omega⟩) ?_
    walk_at "st"
    refine Rd.ite_d (fun h2 => ?_) (fun h2 => ?_)
    · walk_at "st"
      exact k true (by simp; exact Clean.prm (by omega) cl h2 (by omega))
    walk_at "st"
    refine Rd.iC (by show (0 : Int) < 2 + (i : Nat); omega) ?_
    walk_at "st"
    refine Rd.ite_d (fun h3 => ?_) (fun h3 => ?_)
    · walk_at "st"
      exact k false (by simp; exact Prm.not (d := 2 + (i : Nat)) (by omega) (by omega) h3)
    walk_at "st"
    refine ⟨_, rfl, rfl, ?_, fun e h4 h5 => ?_⟩
    · have := cl.next h3
      have e : (2 : Int) + ((i + 1 : Nat) : Int) = 2 + (i : Nat) + 1 := by omega
      rw [e]; exact this
    · by_cases z : e = 2 + (i : Nat)
      · rw [z]; omega
      · exact sm e h4 (by omega)
  · rintro σ H' ⟨v, rfl, rfl, cl, sm⟩
    walk_at "st"
    have a := sm 1000 (by decide) (by decide)
    have b := cl 2 (by decide) (by decide)
    have e : n = 1000000 := by omega
    rw [e] at b
    exact absurd rfl b
abbrev s__law_prime_below : Stmt := (top 8)
theorem sc__law_prime_below : FnScope ["number", "result", "step"] ["number"] (defScope s__law_prime_below) := ⟨rfl, rfl, rfl, by decide +kernel, rfl, by decide +kernel, by decide +kernel⟩
theorem ok_below (F : FnP K "_law_prime_below" "_law_prime_below" s__law_prime_below f fd) (T : Txt mg) (D__law_prime : DOk P w K mg base CX0 "_law_prime" 1 ["number"] sp_prime) : FnOk P w K mg base CX0 2 f fd ["number"] sp_below := by
  refine F.ok sc__law_prime_below (fun vs H Q E h => ?_) (fun cdv A outer s H vs Q E hr h => ?_)
  · obtain ⟨n, rfl, _⟩ := h; rfl
  obtain ⟨n, rfl, n2, hn, k⟩ := h
  refine ⟨_, PSs.nox (pss_cons (ps_set (i := 1) sc__law_prime_below.nd rfl (Or.inl rfl) (pv 0))
  (pss_cons (ps_for PassesOwn.never rfl (pi_range1 rfl T.range (pa_cons pe_int pa_nil)) (pg_name (i := 2) sc__law_prime_below.nd rfl (Or.inl rfl))
  (pss_one (ps_if (pt_not (pt_val (callD D__law_prime (hr.mono (by decide)) (pa_cons (pv 1) pa_nil))))
  (pss_one (ps_set (i := 1) sc__law_prime_below.nd rfl (Or.inl rfl) (pe_op op_sub (pv 1) pe_int)))
  pss_nil)))
  (pss_one (ps_ret (pv 1))))), ?_⟩
  walk_at "st"
  refine ⟨by decide, by decide, ?_⟩
  refine for_range (lo := 0) (n := 160) (fun i σ H' => ∃ v r, σ = [some (.int n), some (.int r), v] ∧ H' = H ∧ 2 ≤ r ∧ r ≤ n) ⟨_, n, rfl, rfl, n2, Int.le_refl _⟩ ?_ ?_
  · rintro i σ H' hi ⟨v, r, rfl, rfl, r2, rn⟩
    walk_at "st"
    refine ⟨r, rfl, by omega, fun b hb => ?_⟩
    walk_at "st"
    refine Rd.ite_nb (fun h1 => ?_) (fun h1 => ?_)
    · walk_at "st"
      have : r ≠ 2 := fun z => by
        rw [z] at hb
        rw [hb.mpr prm_two] at h1
        cases h1
      exact ⟨_, r - 1, rfl, rfl, by omega, by omega⟩
    · walk_at "st"
      exact ⟨_, r, rfl, rfl, r2, rn⟩
  · rintro σ H' ⟨v, r, rfl, rfl, r2, rn⟩
    walk_at "st"
    exact k r r2 rn
abbrev s__law_number : Stmt := (top 9)
theorem sc__law_number : FnScope ["bag", "kind", "first", "second", "base", "result", "step"] ["bag"] (defScope s__law_number) := ⟨rfl, rfl, rfl, by decide +kernel, rfl, by decide +kernel, by decide +kernel⟩
theorem ok_number (F : FnP K "_law_number" "_law_number" s__law_number f fd) (T : Txt mg) (D__law_take : DOk P w K mg base CX0 "_law_take" 1 ["bag", "size"] sp_take) (D__law_prime_below : DOk P w K mg base CX0 "_law_prime_below" 2 ["number"] sp_below) :
    FnOk P w K mg base CX0 3 f fd ["bag"] sp_number := by
  refine F.ok sc__law_number (fun vs H Q E h => ?_) (fun cdv A outer s H vs Q E hr h => ?_)
  · obtain ⟨_, rfl, _⟩ := h; rfl
  obtain ⟨a, rfl, bg, k⟩ := h
  refine ⟨_, PSs.nox (pss_cons (ps_set (i := 1) sc__law_number.nd rfl (Or.inl rfl) (callD D__law_take (hr.mono (by decide)) (pa_cons (pv 0) (pa_cons pe_int pa_nil))))
  (pss_cons (ps_if (pt_cmpR op_eq (pv 1) pe_int (nomark _))
  (pss_one (ps_ret (pe_op op_add pe_int (callD D__law_take (hr.mono (by decide)) (pa_cons (pv 0) (pa_cons pe_int pa_nil))))))
  pss_nil)
  (pss_cons (ps_if (pt_cmpR op_eq (pv 1) pe_int (nomark _))
  (pss_one (ps_ret (callD D__law_prime_below (hr.mono (by decide)) (pa_cons (pe_op op_add pe_int (callD D__law_take (hr.mono (by decide)) (pa_cons (pv 0) (pa_cons pe_int pa_nil)))) pa_nil))))
  pss_nil)
  (pss_cons (ps_if (pt_cmpR op_eq (pv 1) pe_int (nomark _))
  (pss_cons (ps_set (i := 2) sc__law_number.nd rfl (Or.inl rfl) (pe_op op_add pe_int (callD D__law_take (hr.mono (by decide)) (pa_cons (pv 0) (pa_cons pe_int pa_nil)))))
  (pss_cons (ps_set (i := 3) sc__law_number.nd rfl (Or.inl rfl) (pe_op op_add pe_int (callD D__law_take (hr.mono (by decide)) (pa_cons (pv 0) (pa_cons (pe_op op_fdivW pe_int (pv 2)) pa_nil)))))
  (pss_one (ps_ret (pe_op op_mul (pe_op op_mul (pv 2) (pv 3)) (pe_op op_add pe_int (callD D__law_take (hr.mono (by decide)) (pa_cons (pv 0) (pa_cons (pe_op op_fdivW pe_int (pe_op op_mul (pv 2) (pv 3))) pa_nil)))))))))
  pss_nil)
  (pss_cons (ps_if (pt_cmpR op_eq (pv 1) pe_int (nomark _))
  (pss_one (ps_ret (pe_op op_add pe_int (callD D__law_take (hr.mono (by decide)) (pa_cons (pv 0) (pa_cons pe_int pa_nil))))))
  pss_nil)
  (pss_cons (ps_if (pt_cmpR op_eq (pv 1) pe_int (nomark _))
  (pss_one (ps_ret (pe_op op_sub pe_int (callD D__law_take (hr.mono (by decide)) (pa_cons (pv 0) (pa_cons pe_int pa_nil))))))
  pss_nil)
  (pss_cons (ps_if (pt_cmpR op_eq (pv 1) pe_int (nomark _))
  (pss_cons (ps_set (i := 4) sc__law_number.nd rfl (Or.inl rfl) (pe_op op_add pe_int (callD D__law_take (hr.mono (by decide)) (pa_cons (pv 0) (pa_cons pe_int pa_nil)))))
  (pss_cons (ps_set (i := 5) sc__law_number.nd rfl (Or.inl rfl) pe_int)
  (pss_cons (ps_for PassesOwn.never rfl (pi_range1 rfl T.range (pa_cons (pe_op op_add pe_int (callD D__law_take (hr.mono (by decide)) (pa_cons (pv 0) (pa_cons pe_int pa_nil)))) pa_nil)) (pg_name (i := 6) sc__law_number.nd rfl (Or.inl rfl))
  (pss_one (ps_if (pt_cmpR op_le (pe_op op_mul (pv 5) (pv 4)) pe_int (nomark _))
  (pss_one (ps_set (i := 5) sc__law_number.nd rfl (Or.inl rfl) (pe_op op_mul (pv 5) (pv 4))))
  pss_nil)))
  (pss_one (ps_ret (pv 5))))))
  pss_nil)
  (pss_cons (ps_if (pt_cmpR op_eq (pv 1) pe_int (nomark _))
  (pss_cons (ps_set (i := 4) sc__law_number.nd rfl (Or.inl rfl) (callD D__law_prime_below (hr.mono (by decide)) (pa_cons (pe_op op_add pe_int (callD D__law_take (hr.mono (by decide)) (pa_cons (pv 0) (pa_cons pe_int pa_nil)))) pa_nil)))
  (pss_one (ps_ret (pe_op op_mul (pe_op op_mul (pv 4) (pv 4)) (pe_op op_add pe_int (callD D__law_take (hr.mono (by decide)) (pa_cons (pv 0) (pa_cons (pe_op op_fdivW pe_int (pe_op op_mul (pv 4) (pv 4))) pa_nil))))))))
  pss_nil)
  (pss_cons (ps_if (pt_cmpR op_eq (pv 1) pe_int (nomark _))
  (pss_cons (ps_set (i := 4) sc__law_number.nd rfl (Or.inl rfl) (callD D__law_prime_below (hr.mono (by decide)) (pa_cons (pe_op op_add pe_int (callD D__law_take (hr.mono (by decide)) (pa_cons (pv 0) (pa_cons pe_int pa_nil)))) pa_nil)))
  (pss_one (ps_ret (pe_op op_mul (pe_op op_mul (pe_op op_mul (pv 4) (pv 4)) (pv 4)) (pe_op op_add pe_int (callD D__law_take (hr.mono (by decide)) (pa_cons (pv 0) (pa_cons (pe_op op_fdivW pe_int (pe_op op_mul (pe_op op_mul (pv 4) (pv 4)) (pv 4))) pa_nil))))))))
  pss_nil)
  (pss_cons (ps_if (pt_cmpR op_eq (pv 1) pe_int (nomark _))
  (pss_cons (ps_set (i := 4) sc__law_number.nd rfl (Or.inl rfl) (callD D__law_prime_below (hr.mono (by decide)) (pa_cons (pe_op op_add pe_int (callD D__law_take (hr.mono (by decide)) (pa_cons (pv 0) (pa_cons pe_int pa_nil)))) pa_nil)))
  (pss_one (ps_ret (pe_op op_mul (pv 4) (callD D__law_prime_below (hr.mono (by decide)) (pa_cons (pe_op op_sub (pe_op op_mul pe_int (pv 4)) pe_int) pa_nil))))))
  pss_nil)
  (pss_cons (ps_set (i := 4) sc__law_number.nd rfl (Or.inl rfl) (pe_op op_mul pe_int (pe_op op_add pe_int (callD D__law_take (hr.mono (by decide)) (pa_cons (pv 0) (pa_cons pe_int pa_nil))))))
  (pss_one (ps_ret (pe_op op_mul (pe_op op_mul (pe_op op_add (pv 4) pe_int) (pe_op op_add (pe_op op_mul pe_int (pv 4)) pe_int)) (pe_op op_add (pe_op op_mul pe_int (pv 4)) pe_int))))))))))))))), ?_⟩
  walk_at "st"
  refine ⟨a, 10, rfl, by decide, by decide, bg, fun kd H1 z0 z1 bg1 e1 => ?_⟩
  walk_at "st"
  refine Rd.ite_d (fun c => ?_) (fun c0 => ?_)
  · walk_at "st"
    refine ⟨a, 1000000, rfl, by decide, by decide, bg1, fun v H2 v0 v1 bg2 e2 => ?_⟩
    walk_at "st"
    exact k _ _ (by omega) (by omega) bg2 (e1.trans e2)
  walk_at "st"
  refine Rd.ite_d (fun c => ?_) (fun c1 => ?_)
  · walk_at "st"
    refine ⟨a, 999999, rfl, by decide, by decide, bg1, fun v H2 v0 v1 bg2 e2 => ?_⟩
    walk_at "st"
    exact ⟨_, rfl, by omega, by omega, fun r r0 r1 => k _ _ (by omega) (by omega) bg2 (e1.trans e2)⟩
  walk_at "st"
  refine Rd.ite_d (fun c => ?_) (fun c2 => ?_)
  · walk_at "st"
    refine ⟨a, 1000, rfl, by decide, by decide, bg1, fun v H2 v0 v1 bg2 e2 => ?_⟩
    walk_at "st"
    refine Rd.iC (wide_div (b := 64) (by omega) (by omega) (by decide) (by decide)) ?_
    walk_at "st"
    obtain ⟨d1, d2, d3⟩ := div_le (n := 1000000) (d := 1 + v) (by omega) (by omega)
    generalize hq : (1000000 : Int) / (1 + v) = q at d1 d2 d3
    refine ⟨a, q, rfl, d1, by omega, bg2, fun u H3 u0 u1 bg3 e3 => ?_⟩
    walk_at "st"
    refine Rd.iC (.inl ⟨by omega, by omega⟩) ?_
    walk_at "st"
    have m1 : (1 + v) * (1 + u) ≤ 1000000 := Int.le_trans (Int.mul_le_mul_of_nonneg_left (by omega : 1 + u ≤ q) (by omega)) d3
    have m0 : 1 ≤ (1 + v) * (1 + u) := one_le_mul (by omega) (by omega)
    refine Rd.iC (.inl ⟨by omega, by omega⟩) ?_
    walk_at "st"
    generalize hp : (1 + v) * (1 + u) = p at m0 m1
    refine Rd.iC (wide_div (b := 64) (by omega) (by omega) (by decide) (by decide)) ?_
    walk_at "st"
    obtain ⟨d4, d5, d6⟩ := div_le (n := 1000000) (d := p) (by omega) (by omega)
    generalize hq2 : (1000000 : Int) / p = q2 at d4 d5 d6
    refine ⟨a, q2, rfl, d4, by omega, bg3, fun t H4 t0 t1 bg4 e4 => ?_⟩
    walk_at "st"
    refine Rd.iC (.inl ⟨by omega, by omega⟩) ?_
    walk_at "st"
    have m2 : p * (1 + t) ≤ 1000000 := Int.le_trans (Int.mul_le_mul_of_nonneg_left (by omega : 1 + t ≤ q2) (by omega)) d6
    have m3 : 1 ≤ p * (1 + t) := one_le_mul (by omega) (by omega)
    exact k _ _ m3 m2 bg4 (e1.trans (e2.trans (e3.trans e4)))
  walk_at "st"
  refine Rd.ite_d (fun c => ?_) (fun c3 => ?_)
  · walk_at "st"
    refine ⟨a, 30, rfl, by decide, by decide, bg1, fun v H2 v0 v1 bg2 e2 => ?_⟩
    walk_at "st"
    exact k _ _ (by omega) (by omega) bg2 (e1.trans e2)
  walk_at "st"
  refine Rd.ite_d (fun c => ?_) (fun c4 => ?_)
  · walk_at "st"
    refine ⟨a, 40, rfl, by decide, by decide, bg1, fun v H2 v0 v1 bg2 e2 => ?_⟩
    walk_at "st"
    exact k _ _ (by omega) (by omega) bg2 (e1.trans e2)
  walk_at "st"
  refine Rd.ite_d (fun c => ?_) (fun c5 => ?_)
  · walk_at "st"
    refine ⟨a, 30, rfl, by decide, by decide, bg1, fun v H2 v0 v1 bg2 e2 => ?_⟩
    walk_at "st"
    refine ⟨a, 19, rfl, by decide, by decide, bg2, fun u H3 u0 u1 bg3 e3 => ?_⟩
    walk_at "st"
    refine ⟨by omega, by omega, ?_⟩
    refine for_range (lo := 0) (n := (1 + u).toNat) (fun i σ H' => ∃ (x : Option V) (r : Int), σ = [some (.ref a), some (.int kd), none, none, some (.int (2 + v)), some (.int r), x] ∧ H' = H3 ∧ 1 ≤ r ∧ r ≤ 1000000) ⟨_, 1, rfl, rfl, by decide, by decide⟩ ?_ ?_
    · rintro i σ H' hi ⟨x, r, rfl, rfl, r1, r2⟩
      walk_at "st"
      refine Rd.iC (.inl ⟨by omega, by omega⟩) ?_
      walk_at "st"
      refine Rd.ite_d (fun h1 => ?_) (fun h1 => ?_)
      · walk_at "st"
        refine Rd.iC (.inl ⟨by omega, by omega⟩) ?_
        walk_at "st"
        exact ⟨_, _, rfl, rfl, one_le_mul r1 (by omega), h1⟩
      · walk_at "st"
        exact ⟨_, _, rfl, rfl, r1, r2⟩
    · rintro σ H' ⟨x, r, rfl, rfl, r1, r2⟩
      walk_at "st"
      exact k _ _ r1 r2 bg3 (e1.trans (e2.trans e3))
  walk_at "st"
  refine Rd.ite_d (fun c => ?_) (fun c6 => ?_)
  · walk_at "st"
    refine ⟨a, 998, rfl, by decide, by decide, bg1, fun v H2 v0 v1 bg2 e2 => ?_⟩
    walk_at "st"
    refine ⟨_, rfl, by omega, by omega, fun r r0 r1 => ?_⟩
    walk_at "st"
    have m1 : r * r ≤ 999 * 999 := Int.mul_le_mul (by omega) (by omega) (by omega) (by omega)
    have m0 : 1 ≤ r * r := one_le_mul (by omega) (by omega)
    refine Rd.iC (.inl ⟨by omega, by omega⟩) ?_
    walk_at "st"
    refine Rd.iC (.inl ⟨by omega, by omega⟩) ?_
    walk_at "st"
    generalize hp : r * r = p at m0 m1
    refine Rd.iC (wide_div (b := 64) (by omega) (by omega) (by decide) (by decide)) ?_
    walk_at "st"
    obtain ⟨d4, d5, d6⟩ := div_le (n := 1000000) (d := p) (by omega) (by omega)
    generalize hq2 : (1000000 : Int) / p = q2 at d4 d5 d6
    refine ⟨a, q2, rfl, d4, by omega, bg2, fun t H4 t0 t1 bg4 e4 => ?_⟩
    walk_at "st"
    refine Rd.iC (.inl ⟨by omega, by omega⟩) ?_
    walk_at "st"
    have m2 : p * (1 + t) ≤ 1000000 := Int.le_trans (Int.mul_le_mul_of_nonneg_left (by omega : 1 + t ≤ q2) (by omega)) d6
    have m3 : 1 ≤ p * (1 + t) := one_le_mul (by omega) (by omega)
    exact k _ _ m3 m2 bg4 (e1.trans (e2.trans e4))
  walk_at "st"
  refine Rd.ite_d (fun c => ?_) (fun c7 => ?_)
  · walk_at "st"
    refine ⟨a, 98, rfl, by decide, by decide, bg1, fun v H2 v0 v1 bg2 e2 => ?_⟩
    walk_at "st"
    refine ⟨_, rfl, by omega, by omega, fun r r0 r1 => ?_⟩
    walk_at "st"
    have m1 : r * r ≤ 99 * 99 := Int.mul_le_mul (by omega) (by omega) (by omega) (by omega)
    have m0 : 1 ≤ r * r := one_le_mul (by omega) (by omega)
    have m3 : r * r * r ≤ 9801 * 99 := Int.mul_le_mul (by omega) (by omega) (by omega) (by omega)
    have m2 : 1 ≤ r * r * r := one_le_mul m0 (by omega)
    refine Rd.iC (.inl ⟨by omega, by omega⟩) ?_
    walk_at "st"
    refine Rd.iC (.inl ⟨by omega, by omega⟩) ?_
    walk_at "st"
    refine Rd.iC (.inl ⟨by omega, by omega⟩) ?_
    walk_at "st"
    refine Rd.iC (.inl ⟨by omega, by omega⟩) ?_
    walk_at "st"
    generalize hp : r * r * r = p at m2 m3
    refine Rd.iC (wide_div (b := 64) (by omega) (by omega) (by decide) (by decide)) ?_
    walk_at "st"
    obtain ⟨d4, d5, d6⟩ := div_le (n := 1000000) (d := p) (by omega) (by omega)
    generalize hq2 : (1000000 : Int) / p = q2 at d4 d5 d6
    refine ⟨a, q2, rfl, d4, by omega, bg2, fun t H4 t0 t1 bg4 e4 => ?_⟩
    walk_at "st"
    refine Rd.iC (.inl ⟨by omega, by omega⟩) ?_
    walk_at "st"
    have m4 : p * (1 + t) ≤ 1000000 := Int.le_trans (Int.mul_le_mul_of_nonneg_left (by omega : 1 + t ≤ q2) (by omega)) d6
    have m5 : 1 ≤ p * (1 + t) := one_le_mul (by omega) (by omega)
    exact k _ _ m5 m4 bg4 (e1.trans (e2.trans e4))
  walk_at "st"
  refine Rd.ite_d (fun c => ?_) (fun c8 => ?_)
  · walk_at "st"
    refine ⟨a, 700, rfl, by decide, by decide, bg1, fun v H2 v0 v1 bg2 e2 => ?_⟩
    walk_at "st"
    refine ⟨_, rfl, by omega, by omega, fun r r0 r1 => ?_⟩
    walk_at "st"
    refine Rd.iC (.inl ⟨by omega, by omega⟩) ?_
    walk_at "st"
    refine ⟨_, rfl, by omega, by omega, fun t t0 t1 => ?_⟩
    walk_at "st"
    refine Rd.iC (.inl ⟨by omega, by omega⟩) ?_
    walk_at "st"
    have m1 : r * t ≤ 702 * 1403 := Int.mul_le_mul (by omega) (by omega) (by omega) (by omega)
    exact k _ _ (one_le_mul (by omega) (by omega)) (by omega) bg2 (e1.trans e2)
  walk_at "st"
  refine ⟨a, 8, rfl, by decide, by decide, bg1, fun v H2 v0 v1 bg2 e2 => ?_⟩
  walk_at "st"
  refine Rd.iC (.inl ⟨by omega, by omega⟩) ?_
  walk_at "st"
  refine Rd.iC (.inl ⟨by omega, by omega⟩) ?_
  walk_at "st"
  have b0 : 6 * (1 + v) ≤ 48 := by omega
  have b1 : 6 ≤ 6 * (1 + v) := by omega
  generalize 6 * (1 + v) = b at b0 b1
  refine Rd.iC (.inl ⟨by omega, by omega⟩) ?_
  walk_at "st"
  refine Rd.iC (.inl ⟨by omega, by omega⟩) ?_
  walk_at "st"
  have m1 : (b + 1) * (2 * b + 1) ≤ 49 * 97 := Int.mul_le_mul (by omega) (by omega) (by omega) (by omega)
  have m0 : 1 ≤ (b + 1) * (2 * b + 1) := one_le_mul (by omega) (by omega)
  have m3 : (b + 1) * (2 * b + 1) * (3 * b + 1) ≤ 4753 * 145 := Int.mul_le_mul (by omega) (by omega) (by omega) (by omega)
  refine Rd.iC (.inl ⟨by omega, by omega⟩) ?_
  exact k _ _ (one_le_mul m0 (by omega)) (by omega) bg2 (e1.trans e2)
abbrev s__law_negative : Stmt := (top 10)
theorem sc__law_negative : FnScope ["bag"] ["bag"] (defScope s__law_negative) := ⟨rfl, rfl, rfl, by decide +kernel, rfl, by decide +kernel, by decide +kernel⟩
theorem ok_negative (F : FnP K "_law_negative" "_law_negative" s__law_negative f fd) (T : Txt mg) (D__law_take : DOk P w K mg base CX0 "_law_take" 1 ["bag", "size"] sp_take) : FnOk P w K mg base CX0 2 f fd ["bag"] sp_negative := by
  refine F.ok sc__law_negative (fun vs H Q E h => ?_) (fun cdv A outer s H vs Q E hr h => ?_)
  · obtain ⟨_, rfl, _⟩ := h; rfl
  obtain ⟨a, rfl, bg, k⟩ := h
  refine ⟨_, PSs.nox (pss_cons (ps_if (pt_cmpR op_eq (callD D__law_take (hr.mono (by decide)) (pa_cons (pv 0) (pa_cons pe_int pa_nil))) pe_int (nomark _))
  (pss_one (ps_ret (pe_op op_sub (pe_un un_neg (pe_op op_pow pe_int pe_int)) (callD D__law_take (hr.mono (by decide)) (pa_cons (pv 0) (pa_cons pe_int pa_nil))))))
  pss_nil)
  (pss_one (ps_ret (pe_op op_sub (pe_un un_neg pe_int) (callD D__law_take (hr.mono (by decide)) (pa_cons (pv 0) (pa_cons pe_int pa_nil))))))), ?_⟩
  walk_at "st"
  refine ⟨a, 4, rfl, by decide, by decide, bg, fun kd H1 z0 z1 bg1 e1 => ?_⟩
  walk_at "st"
  refine Rd.ite_d (fun c => ?_) (fun c0 => ?_)
  · walk_at "st"
    refine Rd.iC ⟨by decide, by decide, by decide⟩ ?_
    walk_at "st"
    refine ⟨a, 1000000, rfl, by decide, by decide, bg1, fun v H2 v0 v1 bg2 e2 => ?_⟩
    walk_at "st"
    refine k _ _ ?_ bg2 (e1.trans e2)
    have : (0 : Int) ≤ 10 ^ (39 : Int).toNat := by decide
    omega
  · walk_at "st"
    refine ⟨a, 1000000, rfl, by decide, by decide, bg1, fun v H2 v0 v1 bg2 e2 => ?_⟩
    walk_at "st"
    exact k _ _ (by omega) bg2 (e1.trans e2)
abbrev s__law_holds : Stmt := (top 11)
theorem sc__law_holds : FnScope ["told", "number", "product", "last", "pair", "step"] ["told", "number"] (defScope s__law_holds) := ⟨rfl, rfl, rfl, by decide +kernel, rfl, by decide +kernel, by decide +kernel⟩
theorem ok_holds (F : FnP K "_law_holds" "_law_holds" s__law_holds f fd) (T : Txt mg) (D__law_is_integer : DOk P w K mg base CX0 "_law_is_integer" 1 ["told"] sp_isint) (D__law_prime : DOk P w K mg base CX0 "_law_prime" 1 ["number"] sp_prime) :
    FnOk P w K mg base CX0 2 f fd ["told", "number"] sp_holds := by
  refine F.ok sc__law_holds (fun vs H Q E h => ?_) (fun cdv A outer s H vs Q E hr h => ?_)
  · obtain ⟨_, _, _, _, rfl, _⟩ := h; rfl
  obtain ⟨p, n, ts, l, rfl, hn, hL, pr, F, k⟩ := h
  refine ⟨_, PSs.nox (pss_cons (ps_if (PW.pt (pw_or (pt_not (pt_val (pe_callB call_isi rfl T.isinstance (by decide +kernel) (pa_cons (pv 0) (pa_cons (pe_bltn rfl T.list (by decide +kernel) (RelV_ty "list")) pa_nil))))) (pw_or1 (pt_cmpR op_gt (pe_callB call_len_seq rfl T.len PySem.boot_len (pa_cons (pv 0) pa_nil)) pe_int (nomark _)))))
  (pss_one (ps_ret pe_bl))
  pss_nil)
  (pss_cons (ps_set (i := 2) sc__law_holds.nd rfl (Or.inl rfl) pe_int)
  (pss_cons (ps_set (i := 3) sc__law_holds.nd rfl (Or.inl rfl) pe_int)
  (pss_cons (ps_for PassesOwn.never rfl (pi_list (pv 0)) (pg_name (i := 4) sc__law_holds.nd rfl (Or.inl rfl))
  (pss_cons (ps_if (PW.pt (pw_or (pt_not (pt_val (pe_callB call_isi rfl T.isinstance (by decide +kernel) (pa_cons (pv 4) (pa_cons (pe_bltn rfl T.tuple (by decide +kernel) (RelV_ty "tuple")) pa_nil))))) (pw_or1 (pt_cmpR op_ne (pe_callB call_len_seq rfl T.len PySem.boot_len (pa_cons (pv 4) pa_nil)) pe_int (nomark _)))))
  (pss_one (ps_ret pe_bl))
  pss_nil)
  (pss_cons (ps_if (PW.pt (pw_or (pt_not (pt_val (callD D__law_is_integer (hr.mono (by decide)) (pa_cons (pe_ix ix_tup (pv 4) pe_int (fun _ _ => rfl)) pa_nil)))) (pw_or1 (pt_not (pt_val (callD D__law_is_integer (hr.mono (by decide)) (pa_cons (pe_ix ix_tup (pv 4) pe_int (fun _ _ => rfl)) pa_nil)))))))
  (pss_one (ps_ret pe_bl))
  pss_nil)
  (pss_cons (ps_if (PW.pt (pw_or (pt_cmpR op_le (pe_ix ix_tup (pv 4) pe_int (fun _ _ => rfl)) (pv 3) (nomark _)) (pw_or (pt_cmpR op_gt (pe_ix ix_tup (pv 4) pe_int (fun _ _ => rfl)) pe_int (nomark _)) (pw_or (pt_cmpR op_lt (pe_ix ix_tup (pv 4) pe_int (fun _ _ => rfl)) pe_int (nomark _)) (pw_or1 (pt_cmpR op_gt (pe_ix ix_tup (pv 4) pe_int (fun _ _ => rfl)) pe_int (nomark _)))))))
  (pss_one (ps_ret pe_bl))
  pss_nil)
  (pss_cons (ps_if (pt_not (pt_val (callD D__law_prime (hr.mono (by decide)) (pa_cons (pe_ix ix_tup (pv 4) pe_int (fun _ _ => rfl)) pa_nil))))
  (pss_one (ps_ret pe_bl))
  pss_nil)
  (pss_cons (ps_for PassesOwn.never rfl (pi_range1 rfl T.range (pa_cons (pe_ix ix_tup (pv 4) pe_int (fun _ _ => rfl)) pa_nil)) (pg_name (i := 5) sc__law_holds.nd rfl (Or.inl rfl))
  (pss_one (ps_set (i := 2) sc__law_holds.nd rfl (Or.inl rfl) (pe_op op_mul (pv 2) (pe_ix ix_tup (pv 4) pe_int (fun _ _ => rfl))))))
  (pss_one (ps_set (i := 3) sc__law_holds.nd rfl (Or.inl rfl) (pe_ix ix_tup (pv 4) pe_int (fun _ _ => rfl))))))))))
  (pss_one (ps_ret (pe_cmpR op_eq (pv 2) (pv 1) (nomark _)))))))), ?_⟩
  have l7 := F.short hn
  have lt : (ts.map V.ref).length = l.length := by rw [List.length_map, pr.1]
  walk_at "st"
  refine Rd.isi (.base (.lst hL)) (Rd.kit_ty (v := true) (by decide +kernel)) ?_
  walk_at "st"
  refine (if_neg Bool.false_ne_true).mpr ?_
  walk_at "st"
  refine Rd.len1 (.inl (SqL.of hL)) ?_
  walk_at "st"
  refine Rd.ite_d (fun c => ?_) (fun c => ?_)
  · omega
  walk_at "st"
  refine Rd.itl' (SqL.of hL) ?_
  refine for_list (K := K) (a := p) (xs := ts.map V.ref) (fun i σ H' => ∃ (x y : Option V) (last : Int), σ = [some (.ref p), some (.int n), some (.int (prod (l.take i))), some (.int last), x, y] ∧ H' = H ∧ ∀ q, l[i]? = some q → last < q.1)
    ⟨none, none, 1, rfl, rfl, fun q hq => by have := (F.le (List.mem_of_getElem? hq)).1; omega⟩ (fun i σ H' _ ⟨_, _, _, _, e, _⟩ => by rw [e]; exact SqL.of hL) ?_ ?_
  · rintro i x σ H' hx ⟨x0, y0, last, rfl, rfl, hl⟩
    obtain ⟨t, ht, rfl⟩ : ∃ t, ts[i]? = some t ∧ x = .ref t := by
      rw [List.getElem?_map] at hx
      cases e : ts[i]? with
      | none => rw [e] at hx; cases hx
      | some t => rw [e] at hx; cases hx; exact ⟨t, rfl, rfl⟩
    obtain ⟨q, hq⟩ : ∃ q, l[i]? = some q := by
      have h1 := (List.getElem?_eq_some_iff.mp ht).1
      rw [pr.1] at h1
      exact ⟨l[i], List.getElem?_eq_getElem h1⟩
    have hT := pr.2 i t q ht hq
    have mem := List.mem_of_getElem? hq
    obtain ⟨q2, qn⟩ := F.le mem
    have q20 := F.exp hn mem
    have qe := (F.pr q mem).2
    have qp := (F.pr q mem).1
    walk_at "st"
    refine Rd.isi (.base (.tup hT)) (Rd.kit_ty (v := true) (by decide +kernel)) ?_
    walk_at "st"
    refine (if_neg Bool.false_ne_true).mpr ?_
    walk_at "st"
    refine Rd.len1 (.inr (SqT.of hT)) ?_
    walk_at "st"
    refine (if_neg (show ¬ (!decide ((2 : Int) = 2)) = true by decide)).mpr ?_
    walk_at "st"
    refine Rd.ixT (SqT.of hT) at0 ?_
    walk_at "st"
    refine ⟨_, rfl, ?_⟩
    walk_at "st"
    refine (if_neg Bool.false_ne_true).mpr ?_
    walk_at "st"
    refine Rd.ixT (SqT.of hT) at1 ?_
    walk_at "st"
    refine ⟨_, rfl, ?_⟩
    walk_at "st"
    refine (if_neg Bool.false_ne_true).mpr ?_
    walk_at "st"
    refine Rd.ixT (SqT.of hT) at0 ?_
    walk_at "st"
    have hl2 := hl q hq
    refine Rd.ite_d (fun c => by omega) (fun c => ?_)
    walk_at "st"
    refine Rd.ixT (SqT.of hT) at0 ?_
    walk_at "st"
    refine Rd.ite_d (fun c => by omega) (fun c => ?_)
    walk_at "st"
    refine Rd.ixT (SqT.of hT) at1 ?_
    walk_at "st"
    refine Rd.ite_d (fun c => by omega) (fun c => ?_)
    walk_at "st"
    refine Rd.ixT (SqT.of hT) at1 ?_
    walk_at "st"
    refine (if_neg (show ¬ decide ((20 : Int) < q.2) = true by rw [decide_eq_false (by omega)]; exact Bool.false_ne_true)).mpr ?_
    walk_at "st"
    refine Rd.ixT (SqT.of hT) at0 ?_
    walk_at "st"
    refine ⟨_, rfl, by omega, fun b hb => ?_⟩
    rw [show b = true from hb.mpr qp]
    walk_at "st"
    refine (if_neg Bool.false_ne_true).mpr ?_
    walk_at "st"
    refine Rd.ixT (SqT.of hT) at1 ?_
    walk_at "st"
    refine ⟨by omega, by omega, ?_⟩
    refine for_range (lo := 0) (n := q.2.toNat) (fun j σ H2 => ∃ (y : Option V), σ = [some (.ref p), some (.int n), some (.int (prod (l.take i) * q.1 ^ j)), some (.int last), some (.ref t), y] ∧ H2 = H') ⟨_, by rw [Int.pow_zero, Int.mul_one]; rfl, rfl⟩ ?_ ?_
    · rintro j σ H2 hj ⟨y, rfl, rfl⟩
      walk_at "st"
      refine Rd.ixT (SqT.of hT) at0 ?_
      walk_at "st"
      refine Rd.iC (.inr ⟨by omega, by omega⟩) ?_
      walk_at "st"
      exact ⟨_, by rw [Int.pow_succ, ← Int.mul_assoc]; rfl, rfl⟩
    · rintro σ H2 ⟨y, rfl, rfl⟩
      walk_at "st"
      refine Rd.ixT (SqT.of hT) at0 ?_
      walk_at "st"
      refine ⟨some (.ref t), y, q.1, ?_, rfl, fun q3 hq3 => ?_⟩
      · have e : l.take (i + 1) = l.take i ++ [q] := by rw [List.take_add_one, hq]; rfl
        rw [e, prod_snoc]; rfl
      · obtain ⟨a1, a2⟩ := List.getElem?_eq_some_iff.mp hq
        obtain ⟨b1, b2⟩ := List.getElem?_eq_some_iff.mp hq3
        have := List.pairwise_iff_getElem.mp F.asc i (i + 1) a1 b1 (by omega)
        rw [a2, b2] at this
        exact this
  · rintro σ H' ⟨x, y, last, rfl, rfl, _⟩
    walk_at "st"
    have e : l.take (ts.map V.ref).length = l := by rw [lt, List.take_length]
    rw [e, F.eq]
    rw [show decide (n = n) = true from decide_eq_true rfl]
    exact k
abbrev s__law_judged : Stmt := (top 12)
theorem sc__law_judged : FnScope ["number", "told"] ["number"] (defScope s__law_judged) := ⟨rfl, rfl, rfl, by decide +kernel, rfl, by decide +kernel, by decide +kernel⟩
theorem ok_judged (F : FnP K "_law_judged" "_law_judged" s__law_judged f fd) (T : Txt mg) (D_is_prime : DOk P w K mg base CX0 "is_prime" 1 ["number"] sp_prime) (D__law_prime : DOk P w K mg base CX0 "_law_prime" 1 ["number"] sp_prime) :
    FnOk P w K mg base CX0 2 f fd ["number"] sp_judged := by
  refine F.ok sc__law_judged (fun vs H Q E h => ?_) (fun cdv A outer s H vs Q E hr h => ?_)
  · obtain ⟨_, rfl, _⟩ := h; rfl
  obtain ⟨n, rfl, hn, k⟩ := h
  refine ⟨_, PSs.nox (pss_cons (ps_set (i := 1) sc__law_judged.nd rfl (Or.inl rfl) (callD D_is_prime (hr.mono (by decide)) (pa_cons (pv 0) pa_nil)))
  (pss_one (ps_ret (pe_and (pe_callB call_isi rfl T.isinstance (by decide +kernel) (pa_cons (pv 1) (pa_cons (pe_bltn rfl T.bool (by decide +kernel) (RelV_ty "bool")) pa_nil))) (pe_one (pe_cmpR op_eq (pv 1) (callD D__law_prime (hr.mono (by decide)) (pa_cons (pv 0) pa_nil)) (nomark _))))))), ?_⟩
  walk_at "st"
  refine ⟨_, rfl, hn, fun b hb => ?_⟩
  walk_at "st"
  refine Rd.isi (.base (.bl b)) (Rd.kit_ty (v := true) (by decide +kernel)) ?_
  walk_at "st"
  refine (if_pos rfl).mpr ?_
  walk_at "st"
  refine ⟨_, rfl, hn, fun c hc => ?_⟩
  walk_at "st"
  have e : b = c := by
    rw [Bool.eq_iff_iff, hb, hc]
  rw [e]
  have e2 : (c == c) = true := beq_self_eq_true c
  rw [e2]
  exact k
end
end K01

set_option Elab.async false
set_option linter.all false
set_option maxRecDepth 100000
set_option maxHeartbeats 4000000
namespace K01
open PySem L2 Rd
local macro_rules | `(tactic| walk_at "st1") => `(tactic| with_reducible first
  | refine' Rd.seq ?_ | refine' Rd.nxt ?_ | refine' Rd.asg ?_ | refine' Rd.nm ?_ | refine' Rd.con ?_ | refine' Rd.op ?_ | refine' Rd.i0 ?_ | refine' Rd.un ?_ | refine' Rd.u0 ?_
  | refine' Rd.eqI ?_ | refine' Rd.neI ?_ | refine' Rd.eqB ?_ | refine' Rd.tst ?_ | refine' Rd.tB_ ?_ | refine' Rd.exb ?_ | refine' Rd.ifS ?_ | refine' Rd.ret ?_ | refine' Rd.retN ?_ | refine' Rd.drop ?_
  | refine' Rd.nil ?_ | refine' Rd.cons ?_ | refine' Rd.cb ?_ | refine' Rd.call ?_ | refine' Rd.andT ?_ | refine' Rd.orT ?_ | refine' Rd.notT ?_ | refine' Rd.andV ?_ | refine' Rd.orV ?_ | refine' Rd.notV ?_ | refine' Rd.chain ?_
  | refine' Rd.lst ?_ | refine' Rd.tup ?_ | refine' Rd.for_ ?_ | refine' Rd.rng1 ?_ | refine' Rd.rng2 ?_ | refine' Rd.itl ?_ | refine' Rd.itt ?_ | refine' Rd.sub ?_
  | refine' Rd.lrg ?_ | refine' Rd.rg1 ?_ | refine' Rd.rg2 ?_ | refine' Rd.exi ?_ | refine' Rd.exi2 ?_ | refine' Rd.int1 ?_ | refine' Rd.ex1 ?_ | refine' Rd.ex2 ?_)
local macro_rules | `(tactic| walk_at "st") => `(tactic| repeat (first | walk_at "st1" | ((with_reducible refine' Rd.var ?hv ?_); (case hv => rfl))))
local macro_rules | `(tactic| walk_at "sj1") => `(tactic| with_reducible first
  | refine' Rd.seqA ?_ | refine' Rd.seqD ?_ | refine' Rd.seqF ?_ | refine' Rd.seqW ?_ | refine' Rd.nxt ?_ | refine' Rd.asg ?_ | refine' Rd.nm ?_ | refine' Rd.con ?_ | refine' Rd.op ?_ | refine' Rd.i0 ?_ | refine' Rd.un ?_ | refine' Rd.u0 ?_
  | refine' Rd.eqI ?_ | refine' Rd.neI ?_ | refine' Rd.eqB ?_ | refine' Rd.tst ?_ | refine' Rd.tB_ ?_ | refine' Rd.exb ?_ | refine' Rd.ifS ?_ | refine' Rd.ret ?_ | refine' Rd.retN ?_ | refine' Rd.drop ?_
  | refine' Rd.nil ?_ | refine' Rd.cons ?_ | refine' Rd.cb ?_ | refine' Rd.call ?_ | refine' Rd.andT ?_ | refine' Rd.orT ?_ | refine' Rd.notT ?_ | refine' Rd.andV ?_ | refine' Rd.orV ?_ | refine' Rd.notV ?_ | refine' Rd.chain ?_
  | refine' Rd.lst ?_ | refine' Rd.tup ?_ | refine' Rd.for_ ?_ | refine' Rd.rng1 ?_ | refine' Rd.rng2 ?_ | refine' Rd.itl ?_ | refine' Rd.itt ?_ | refine' Rd.sub ?_
  | refine' Rd.lrg ?_ | refine' Rd.rg1 ?_ | refine' Rd.rg2 ?_ | refine' Rd.exi ?_ | refine' Rd.exi2 ?_ | refine' Rd.int1 ?_ | refine' Rd.ex1 ?_ | refine' Rd.ex2 ?_)
local macro_rules | `(tactic| walk_at "sj") => `(tactic| repeat (first | walk_at "sj1" | ((with_reducible refine' Rd.var ?hv ?_); (case hv => rfl))))
section
variable {P : Program} {w : World} {K : PySem.W.Frag} {mg : Str → Option Value} {base : Heap} {f : Addr} {fd : FuncData}
abbrev s_law : Stmt := (top 13)
theorem sc_law : FnScope ["script", "numbers", "others", "k", "bag", "number", "told"] ["script"] (defScope s_law) := ⟨rfl, rfl, rfl, by decide +kernel, rfl, by decide +kernel, by decide +kernel⟩
structure St1 (H H' : Hp) (pn po : Addr) (ms os : List Int) (i : Nat) : Prop where
  same : Same H H'
  n0 : H pn = none
  o0 : H po = none
  hn : H' pn = some (.lst (ms.map V.int))
  ho : H' po = some (.lst (os.map V.int))
  mb : ∀ m ∈ ms, 1 ≤ m ∧ m ≤ 1000000
  ob : ∀ o ∈ os, o ≤ 1000000
  ml : ms.length = i + 1
  ol : os.length = 37 + 4 * i
theorem ok_law (F : FnP K "law" "law" s_law f fd) (T : Txt mg) (D__law_bag : DOk P w K mg base CX0 "_law_bag" 1 ["script", "k"] (sp_bag K)) (D__law_number : DOk P w K mg base CX0 "_law_number" 3 ["bag"] sp_number)
    (D__law_negative : DOk P w K mg base CX0 "_law_negative" 2 ["bag"] sp_negative) (D_factored : DOk P w K mg base CX0 "factored" 1 ["number"] sp_factored) (D__law_holds : DOk P w K mg base CX0 "_law_holds" 2 ["told", "number"] sp_holds)
    (D__law_judged : DOk P w K mg base CX0 "_law_judged" 2 ["number"] sp_judged) : FnOk P w K mg base CX0 4 f fd ["script"] (sp_law K) := by
  refine F.ok sc_law (fun vs H Q E h => ?_) (fun cdv A outer s H vs Q E hr h => ?_)
  · obtain ⟨_, _, rfl, _⟩ := h; rfl
  obtain ⟨a, ns, rfl, hS, hl, k⟩ := h
  refine ⟨_, PSs.nox (pss_cons (ps_set (i := 1) sc_law.nd rfl (Or.inl rfl) (pe_lst (pa_cons pe_int pa_nil)))
  (pss_cons (ps_set (i := 2) sc_law.nd rfl (Or.inl rfl) (pe_listRg rfl rfl T.list (prg_2 rfl T.range (pe_un un_neg pe_int) pe_int)))
  (pss_cons (ps_for PassesOwn.never rfl (pi_range1 rfl T.range (pa_cons (pe_op op_add pe_int (pe_callB (call_min2 rfl) rfl T.min (by decide +kernel) (pa_cons (pe_callB call_len_seq rfl T.len PySem.boot_len (pa_cons (pv 0) pa_nil)) (pa_cons pe_int pa_nil)))) pa_nil)) (pg_name (i := 3) sc_law.nd rfl (Or.inl rfl))
  (pss_cons (ps_set (i := 4) sc_law.nd rfl (Or.inl rfl) (callD D__law_bag (hr.mono (by decide)) (pa_cons (pv 0) (pa_cons (pv 3) pa_nil))))
  (pss_cons (ps_set (i := 5) sc_law.nd rfl (Or.inl rfl) (callD D__law_number (hr.mono (by decide)) (pa_cons (pv 4) pa_nil)))
  (pss_cons (ps_expr (pe_bm PySem.F.plainAttrs_list PySem.F.slot_list_append PySem.F.type_list_append mt_append (pv 1) (pa_cons (pv 5) pa_nil)))
  (pss_one (ps_set (i := 2) sc_law.nd rfl (Or.inl rfl) (pe_op op_cat (pv 2) (pe_lst (pa_cons (pv 5) (pa_cons (pe_un un_neg (pv 5)) (pa_cons (pe_op op_sub pe_int (pv 5)) (pa_cons (callD D__law_negative (hr.mono (by decide)) (pa_cons (pv 4) pa_nil)) pa_nil))))))))))))
  (pss_cons (ps_for PassesOwn.never rfl (pi_list (pv 1)) (pg_name (i := 5) sc_law.nd rfl (Or.inl rfl))
  (pss_cons (ps_set (i := 6) sc_law.nd rfl (Or.inl rfl) (callD D_factored (hr.mono (by decide)) (pa_cons (pv 5) pa_nil)))
  (pss_cons (ps_if (pt_not (pt_val (callD D__law_holds (hr.mono (by decide)) (pa_cons (pv 6) (pa_cons (pv 5) pa_nil)))))
  (pss_one (ps_ret pe_bl))
  pss_nil)
  (pss_cons (ps_if (pt_cmpR op_gt (pe_callB call_len_seq rfl T.len PySem.boot_len (pa_cons (pv 6) pa_nil)) pe_int (nomark _))
  (pss_one (ps_asg (pe_tup (pa_cons pe_int (pa_cons pe_int pa_nil))) (pg_sub (pv 6) pe_int set_list)))
  pss_nil)
  (pss_one (ps_expr (pe_bm PySem.F.plainAttrs_list PySem.F.slot_list_append PySem.F.type_list_append mt_append (pv 6) (pa_cons (pe_tup (pa_cons pe_int (pa_cons pe_int pa_nil))) pa_nil))))))))
  (pss_cons (ps_for PassesOwn.never rfl (pi_list (pv 1)) (pg_name (i := 5) sc_law.nd rfl (Or.inl rfl))
  (pss_one (ps_if (pt_not (pt_val (callD D__law_holds (hr.mono (by decide)) (pa_cons (callD D_factored (hr.mono (by decide)) (pa_cons (pv 5) pa_nil)) (pa_cons (pv 5) pa_nil)))))
  (pss_one (ps_ret pe_bl))
  pss_nil)))
  (pss_cons (ps_for PassesOwn.never rfl (pi_list (pv 2)) (pg_name (i := 5) sc_law.nd rfl (Or.inl rfl))
  (pss_one (ps_if (pt_not (pt_val (callD D__law_judged (hr.mono (by decide)) (pa_cons (pv 5) pa_nil))))
  (pss_one (ps_ret pe_bl))
  pss_nil)))
  (pss_one (ps_ret pe_bl)))))))), ?_⟩
  walk_at "st"
  refine ⟨by show 1 ≤ sizeLine; decide, fun pn hpn => ?_⟩
  walk_at "st"
  refine ⟨⟨by decide, by decide, by decide, by decide, by decide⟩, fun po hpo => ?_⟩
  have npo : pn ≠ po := ne_of_none upd_same hpo
  walk_at "st"
  refine Rd.len1 (.inl (Same.seq (Rd.same_add (Rd.same_mk hpn) hpo) hS)) ?_
  walk_at "st"
  rw [List.length_map]
  refine ⟨by split <;> omega, by split <;> omega, ?_⟩
  have n4 : (1 + (if (3 : Int) < (ns.length : Int) then 3 else (ns.length : Int))).toNat ≤ 4 := by split <;> omega
  generalize (1 + (if (3 : Int) < (ns.length : Int) then 3 else (ns.length : Int))).toNat = N at n4
  refine for_range (lo := 0) (n := N) (fun i σ H' => ∃ (po : Addr) (ms os : List Int) (x y z : Option V), σ = [some (.ref a), some (.ref pn), some (.ref po), x, y, z, none] ∧ St1 H H' pn po ms os i)
    ⟨po, [1], (List.range 37).map (fun i => -6 + ((i : Nat) : Int)), _, _, _, rfl, Rd.same_add (Rd.same_mk hpn) hpo, hpn, ?_, ?_, ?_, ?_, ?_, rfl, by rw [List.length_map, List.length_range]⟩ ?_ ?_
  · exact Same.free (Rd.same_mk hpn) hpo
  · rw [upd_ne npo]; exact upd_same
  · rw [upd_same]
    show some (HO.lst ((List.range ((31 : Int) - -6).toNat).map fun i => V.int (-6 + (i : Nat)))) = _
    rw [List.map_map]
    rfl
  · intro m hm
    rw [List.mem_singleton.mp hm]
    decide
  · intro o ho
    obtain ⟨i, hi, rfl⟩ := List.mem_map.mp ho
    have := List.mem_range.mp hi
    omega
  · rintro i σ H1 hi ⟨po, ms, os, x, y, z, rfl, S⟩
    walk_at "st"
    refine ⟨a, ns, _, rfl, S.same.seq hS, by omega, by omega, fun b H2 hb e2 bg2 => ?_⟩
    have nb : pn ≠ b := ne_of_none S.hn hb
    have ob : po ≠ b := ne_of_none S.ho hb
    walk_at "st"
    refine ⟨b, rfl, bg2, fun v H3 v1 v2 bg3 e3 => ?_⟩
    walk_at "st"
    have h3n : H3 pn = some (.lst (ms.map V.int)) := e3 _ _ nb (e2 _ _ S.hn)
    have h3o : H3 po = some (.lst (os.map V.int)) := e3 _ _ ob (e2 _ _ S.ho)
    have s3 : Same H H3 := fun q o hq => e3 _ _ (ne_of_none (S.same _ _ hq) hb) (e2 _ _ (S.same _ _ hq))
    refine ⟨_, rfl, .inl ⟨rfl, _, SqL.of h3n⟩, ?_⟩
    walk_at "st"
    refine ⟨pn, ms.map V.int, _, rfl, rfl, h3n, by rw [List.length_map, S.ml]; exact Nat.lt_of_le_of_lt (by omega : i + 1 ≤ 5) (by decide), ?_⟩
    walk_at "st"
    obtain ⟨x3, y3, g1, g2, g3, g4⟩ := bg3
    refine ⟨b, rfl, ⟨x3, y3, by rw [upd_ne nb.symm]; exact g1, g2, g3, g4⟩, fun u H4 u1 bg4 e4 => ?_⟩
    walk_at "st"
    have npo : pn ≠ po := fun q => by
      have h1 := S.ml
      have h2 := S.ol
      have h3 := S.hn
      rw [q, S.ho] at h3
      have h4 := List.map_inj_right (f := V.int) (fun _ _ => V.int.inj) |>.mp (HO.lst.inj (Option.some.inj h3))
      rw [h4] at h2
      omega
    have h4n : H4 pn = some (.lst (ms.map V.int ++ [V.int v])) := e4 _ _ nb upd_same
    have h4o : H4 po = some (.lst (os.map V.int)) := e4 _ _ ob (by rw [upd_ne npo.symm]; exact h3o)
    have s4 : Same H H4 := fun q o hq => e4 _ _ (ne_of_none (S.same _ _ hq) hb) (by rw [upd_ne (ne_of_none hq S.n0)]; exact s3 _ _ hq)
    refine ⟨by show 4 ≤ sizeLine; decide, fun p4 hp4 => ?_⟩
    refine ⟨po, p4, os.map V.int, _, rfl, rfl, by rw [upd_ne (ne_of_none h4o hp4)]; exact h4o, upd_same, ?_, fun pq hpq => ?_⟩
    · rw [List.length_map, S.ol]
      exact Nat.le_trans (by show 37 + 4 * i + 4 ≤ 100; omega) (by decide)
    · have s5 : Same H4 (upd H4 p4 (.lst [V.int v, V.int (-v), V.int (1000001 - v), V.int u])) := Rd.same_mk hp4
      walk_at "st"
      refine ⟨pq, ms ++ [v], os ++ [v, -v, 1000001 - v, u], _, _, _, rfl, Rd.same_add (s4.trans s5) hpq, S.n0, Same.free (s4.trans s5) hpq, ?_, ?_, ?_, ?_, ?_, ?_⟩
      · rw [upd_ne (ne_of_none (s5 _ _ h4n) hpq), s5 _ _ h4n, List.map_append]; rfl
      · rw [upd_same, List.map_append]; rfl
      · intro m hm
        rcases List.mem_append.mp hm with hm | hm
        · exact S.mb m hm
        · rw [List.mem_singleton.mp hm]; exact ⟨v1, v2⟩
      · intro o ho
        rcases List.mem_append.mp ho with ho | ho
        · exact S.ob o ho
        · simp only [List.mem_cons, List.not_mem_nil, or_false] at ho
          rcases ho with rfl | rfl | rfl | rfl <;> omega
      · rw [List.length_append, S.ml]; rfl
      · rw [List.length_append, S.ol]; show 37 + 4 * i + 4 = _; omega
  rintro σ H1 ⟨po, ms, os, x, y, z, rfl, S⟩
  walk_at "st"
  refine Rd.itl' (SqL.of S.hn) ?_
  have intL : ∀ {l : List Int} {i : Nat} {x : V}, (l.map V.int)[i]? = some x → ∃ m, l[i]? = some m ∧ x = .int m := fun {l i x} hx => by
    rw [List.getElem?_map] at hx
    cases e : l[i]? with
    | none => rw [e] at hx; cases hx
    | some t => rw [e] at hx; cases hx; exact ⟨t, rfl, rfl⟩
  refine for_list (K := K) (a := pn) (xs := ms.map V.int) (fun i σ H' => ∃ (v w : Option V), σ = [some (.ref a), some (.ref pn), some (.ref po), x, y, v, w] ∧ Same H1 H') ⟨_, _, rfl, Same.refl _⟩ (fun i σ H' _ ⟨_, _, _, e⟩ => Same.seq e (SqL.of S.hn)) ?_ ?_
  · rintro i q σ H' hq ⟨v, w, rfl, e⟩
    obtain ⟨m, hm, rfl⟩ := intL hq
    obtain ⟨m1, m2⟩ := S.mb m (List.mem_of_getElem? hm)
    walk_at "st"
    refine ⟨m, rfl, m1, m2, fun H2 p ts l hp e2 hL pr F => ?_⟩
    walk_at "st"
    refine ⟨p, m, ts, l, rfl, m2, hL, pr, F, ?_⟩
    walk_at "st"
    refine (if_neg Bool.false_ne_true).mpr ?_
    walk_at "sj"
    have l7 := F.short m2
    have lt : (ts.map V.ref).length = l.length := by rw [List.length_map, pr.1]
    with_reducible refine Rd.seqJ (fun σ' H3 => ∃ xs : List V, σ' = [some (.ref a), some (.ref pn), some (.ref po), x, y, some (.int m), some (.ref p)] ∧ Same H' H3 ∧ H3 p = some (.lst xs) ∧ xs.length ≤ 7) ?_ fun N hN => ?_
    · rintro σ' H3 ⟨xs, rfl, e3, h3, l3⟩
      walk_at "st"
      refine ⟨_, rfl, .inl ⟨rfl, _, SqL.of h3⟩, ?_⟩
      walk_at "st"
      refine ⟨line2, fun t ht => ?_⟩
      walk_at "st"
      refine ⟨p, xs, _, rfl, rfl, by rw [upd_ne (ne_of_none h3 ht)]; exact h3, Nat.lt_of_le_of_lt l3 (by decide), ?_⟩
      walk_at "st"
      exact ⟨_, _, rfl, e.trans (Rd.same_mut (Rd.same_add e3 ht) hp)⟩
    · walk_at "st"
      refine Rd.len1 (.inl (SqL.of hL)) ?_
      walk_at "st"
      refine Rd.ite_d (fun c => ?_) (fun c => ?_)
      · walk_at "st"
        refine ⟨line2, fun t ht => ?_⟩
        walk_at "st"
        refine Rd.setL (xs := ts.map V.ref) (by rw [upd_ne (ne_of_none hL ht)]; exact hL) (j := 0) ?_ ?_
        · unfold ixN
          rw [if_pos (Int.le_refl 0), if_pos (by omega)]; rfl
        · walk_at "st"
          exact hN _ _ ⟨_, rfl, Rd.same_mut (Rd.same_add e2 ht) hp, upd_same, by rw [List.length_set]; omega⟩
      · walk_at "st"
        exact hN _ _ ⟨_, rfl, e2, hL, by omega⟩
  rintro σ H2 ⟨v, w, rfl, e⟩
  walk_at "st"
  refine Rd.itl' (SqL.of (e _ _ S.hn)) ?_
  refine for_list (K := K) (a := pn) (xs := ms.map V.int) (fun i σ H' => ∃ (v : Option V), σ = [some (.ref a), some (.ref pn), some (.ref po), x, y, v, w] ∧ Same H1 H') ⟨_, rfl, e⟩ (fun i σ H' _ ⟨_, _, e⟩ => Same.seq e (SqL.of S.hn)) ?_ ?_
  · rintro i q σ H' hq ⟨v, rfl, e⟩
    obtain ⟨m, hm, rfl⟩ := intL hq
    obtain ⟨m1, m2⟩ := S.mb m (List.mem_of_getElem? hm)
    walk_at "st"
    refine ⟨m, rfl, m1, m2, fun H2 p ts l hp e2 hL pr F => ?_⟩
    walk_at "st"
    refine ⟨p, m, ts, l, rfl, m2, hL, pr, F, ?_⟩
    walk_at "st"
    refine (if_neg Bool.false_ne_true).mpr ?_
    walk_at "st"
    exact ⟨_, rfl, e.trans e2⟩
  rintro σ H3 ⟨v, rfl, e⟩
  walk_at "st"
  refine Rd.itl' (SqL.of (e _ _ S.ho)) ?_
  refine for_list (K := K) (a := po) (xs := os.map V.int) (fun i σ H' => ∃ (v : Option V), σ = [some (.ref a), some (.ref pn), some (.ref po), x, y, v, w] ∧ Same H1 H') ⟨_, rfl, e⟩ (fun i σ H' _ ⟨_, _, e⟩ => Same.seq e (SqL.of S.ho)) ?_ ?_
  · rintro i q σ H' hq ⟨v, rfl, e⟩
    obtain ⟨m, hm, rfl⟩ := intL hq
    walk_at "st"
    refine ⟨m, rfl, S.ob m (List.mem_of_getElem? hm), ?_⟩
    walk_at "st"
    refine (if_neg Bool.false_ne_true).mpr ?_
    walk_at "st"
    exact ⟨_, rfl, e⟩
  rintro σ H4 ⟨v, rfl, e⟩
  walk_at "st"
  exact k _
end
end K01

set_option Elab.async false
set_option linter.all false
set_option maxRecDepth 100000
set_option maxHeartbeats 0
namespace K01
open PySem PySem.Spec PyProof.Rows L2 Rd
def d_factored : He.DefD := ⟨("factored", none), "factored", "factored", defArgs s_factored, defBody s_factored, defScope s_factored, [], []⟩
def d_is_prime : He.DefD := ⟨("is_prime", none), "is_prime", "is_prime", defArgs s_is_prime, defBody s_is_prime, defScope s_is_prime, [], []⟩
def d__law_bag : He.DefD := ⟨("_law_bag", none), "_law_bag", "_law_bag", defArgs s__law_bag, defBody s__law_bag, defScope s__law_bag, [], []⟩
def d__law_take : He.DefD := ⟨("_law_take", none), "_law_take", "_law_take", defArgs s__law_take, defBody s__law_take, defScope s__law_take, [], []⟩
def d__law_is_integer : He.DefD := ⟨("_law_is_integer", none), "_law_is_integer", "_law_is_integer", defArgs s__law_is_integer, defBody s__law_is_integer, defScope s__law_is_integer, [], []⟩
def d__law_prime : He.DefD := ⟨("_law_prime", none), "_law_prime", "_law_prime", defArgs s__law_prime, defBody s__law_prime, defScope s__law_prime, [], []⟩
def d__law_prime_below : He.DefD := ⟨("_law_prime_below", none), "_law_prime_below", "_law_prime_below", defArgs s__law_prime_below, defBody s__law_prime_below, defScope s__law_prime_below, [], []⟩
def d__law_number : He.DefD := ⟨("_law_number", none), "_law_number", "_law_number", defArgs s__law_number, defBody s__law_number, defScope s__law_number, [], []⟩
def d__law_negative : He.DefD := ⟨("_law_negative", none), "_law_negative", "_law_negative", defArgs s__law_negative, defBody s__law_negative, defScope s__law_negative, [], []⟩
def d__law_holds : He.DefD := ⟨("_law_holds", none), "_law_holds", "_law_holds", defArgs s__law_holds, defBody s__law_holds, defScope s__law_holds, [], []⟩
def d__law_judged : He.DefD := ⟨("_law_judged", none), "_law_judged", "_law_judged", defArgs s__law_judged, defBody s__law_judged, defScope s__law_judged, [], []⟩
def d_law : He.DefD := ⟨("law", none), "law", "law", defArgs s_law, defBody s_law, defScope s_law, [], []⟩
def fnL : List He.DefD := [d_factored, d_is_prime, d__law_bag, d__law_take, d__law_is_integer, d__law_prime, d__law_prime_below, d__law_number, d__law_negative, d__law_holds, d__law_judged, d_law]
def faL : List He.Fa := [.glo "factored", .glo "is_prime", .glo "_law_bag", .glo "_law_take", .glo "_law_is_integer", .glo "_law_prime", .glo "_law_prime_below", .glo "_law_number", .glo "_law_negative", .glo "_law_holds", .glo "_law_judged", .glo "law", .free "len", .free "abs", .free "int", .free "bool", .free "list", .free "tuple", .free "range", .free "min", .free "isinstance"]
abbrev RR : PySem.W.OpenRow := PySem.W.OpenLaw.row PySem.Challenge.rw_stepsvanish_k01_numbers_factored
abbrev hkL : PySem.W.Hook := He.hookD 4 faL fnL
def obL (s : PySem.W.SharedT) : He.AlD := He.obsDG 4 faL fnL (HandSHeadRun.getT s)
theorem obL_eq (s : PySem.W.SharedT) : obL s = hkL.obs s.abs := He.obsDG_eq (HandSHeadRun.getT_eq s)
def looseL : List PySem.Str := ["factored", "is_prime", "_law_bag", "_law_take", "_law_is_integer", "_law_prime", "_law_prime_below", "_law_number", "_law_negative", "_law_holds", "_law_judged"]
theorem runL (w : World) : HandSHeadRun.RunEq RR (PySem.W.view RR.prog [13]) hkL obL 6000 looseL w := by
  intro os
  kernel_rfl
theorem factsL {P : Program} {w : World} {K : PySem.W.Frag} {h : Heap} {mg : Str → Option Value} {f : Addr} (X : K.In h) (G : h.Ns mainGlobals mg) (hfa : mg ("law" : Str) = some (.ref f)) (c : He.SaysD faL fnL K) :
    ∃ fd : FuncData, (∀ (s : Shared) (v : Value), BindsTo s fd ⟨[v], []⟩ [("script", v)]) ∧ ∀ base : Heap, K.In base → base.Ns mainGlobals mg → FnOk P w K mg base CX0 4 f fd ["script"] (sp_law K) := by
  obtain ⟨fd_factored, F_factored⟩ := c.def_ 0 (d := d_factored) rfl
  have g_factored := He.glo_ok X G (c.fact 0 (f := .glo "factored") rfl)
  have b_factored : Binds K fd_factored ["number"] [] := F_factored.bindsN fun _ _ _ _ _ _ us hl => match us, hl with | [_], _ => rfl
  obtain ⟨fd_is_prime, F_is_prime⟩ := c.def_ 1 (d := d_is_prime) rfl
  have g_is_prime := He.glo_ok X G (c.fact 1 (f := .glo "is_prime") rfl)
  have b_is_prime : Binds K fd_is_prime ["number"] [] := F_is_prime.bindsN fun _ _ _ _ _ _ us hl => match us, hl with | [_], _ => rfl
  obtain ⟨fd__law_bag, F__law_bag⟩ := c.def_ 2 (d := d__law_bag) rfl
  have g__law_bag := He.glo_ok X G (c.fact 2 (f := .glo "_law_bag") rfl)
  have b__law_bag : Binds K fd__law_bag ["script", "k"] [] := F__law_bag.bindsN fun _ _ _ _ _ _ us hl => match us, hl with | [_, _], _ => rfl
  obtain ⟨fd__law_take, F__law_take⟩ := c.def_ 3 (d := d__law_take) rfl
  have g__law_take := He.glo_ok X G (c.fact 3 (f := .glo "_law_take") rfl)
  have b__law_take : Binds K fd__law_take ["bag", "size"] [] := F__law_take.bindsN fun _ _ _ _ _ _ us hl => match us, hl with | [_, _], _ => rfl
  obtain ⟨fd__law_is_integer, F__law_is_integer⟩ := c.def_ 4 (d := d__law_is_integer) rfl
  have g__law_is_integer := He.glo_ok X G (c.fact 4 (f := .glo "_law_is_integer") rfl)
  have b__law_is_integer : Binds K fd__law_is_integer ["told"] [] := F__law_is_integer.bindsN fun _ _ _ _ _ _ us hl => match us, hl with | [_], _ => rfl
  obtain ⟨fd__law_prime, F__law_prime⟩ := c.def_ 5 (d := d__law_prime) rfl
  have g__law_prime := He.glo_ok X G (c.fact 5 (f := .glo "_law_prime") rfl)
  have b__law_prime : Binds K fd__law_prime ["number"] [] := F__law_prime.bindsN fun _ _ _ _ _ _ us hl => match us, hl with | [_], _ => rfl
  obtain ⟨fd__law_prime_below, F__law_prime_below⟩ := c.def_ 6 (d := d__law_prime_below) rfl
  have g__law_prime_below := He.glo_ok X G (c.fact 6 (f := .glo "_law_prime_below") rfl)
  have b__law_prime_below : Binds K fd__law_prime_below ["number"] [] := F__law_prime_below.bindsN fun _ _ _ _ _ _ us hl => match us, hl with | [_], _ => rfl
  obtain ⟨fd__law_number, F__law_number⟩ := c.def_ 7 (d := d__law_number) rfl
  have g__law_number := He.glo_ok X G (c.fact 7 (f := .glo "_law_number") rfl)
  have b__law_number : Binds K fd__law_number ["bag"] [] := F__law_number.bindsN fun _ _ _ _ _ _ us hl => match us, hl with | [_], _ => rfl
  obtain ⟨fd__law_negative, F__law_negative⟩ := c.def_ 8 (d := d__law_negative) rfl
  have g__law_negative := He.glo_ok X G (c.fact 8 (f := .glo "_law_negative") rfl)
  have b__law_negative : Binds K fd__law_negative ["bag"] [] := F__law_negative.bindsN fun _ _ _ _ _ _ us hl => match us, hl with | [_], _ => rfl
  obtain ⟨fd__law_holds, F__law_holds⟩ := c.def_ 9 (d := d__law_holds) rfl
  have g__law_holds := He.glo_ok X G (c.fact 9 (f := .glo "_law_holds") rfl)
  have b__law_holds : Binds K fd__law_holds ["told", "number"] [] := F__law_holds.bindsN fun _ _ _ _ _ _ us hl => match us, hl with | [_, _], _ => rfl
  obtain ⟨fd__law_judged, F__law_judged⟩ := c.def_ 10 (d := d__law_judged) rfl
  have g__law_judged := He.glo_ok X G (c.fact 10 (f := .glo "_law_judged") rfl)
  have b__law_judged : Binds K fd__law_judged ["number"] [] := F__law_judged.bindsN fun _ _ _ _ _ _ us hl => match us, hl with | [_], _ => rfl
  obtain ⟨fd_law, F_law⟩ := c.def_ 11 (d := d_law) rfl
  have g_law := He.glo_ok X G (c.fact 11 (f := .glo "law") rfl)
  have T : Txt mg := ⟨He.free_ok X G (c.fact 12 (f := .free "len") rfl), He.free_ok X G (c.fact 13 (f := .free "abs") rfl), He.free_ok X G (c.fact 14 (f := .free "int") rfl), He.free_ok X G (c.fact 15 (f := .free "bool") rfl), He.free_ok X G (c.fact 16 (f := .free "list") rfl), He.free_ok X G (c.fact 17 (f := .free "tuple") rfl), He.free_ok X G (c.fact 18 (f := .free "range") rfl), He.free_ok X G (c.fact 19 (f := .free "min") rfl), He.free_ok X G (c.fact 20 (f := .free "isinstance") rfl)⟩
  have e := hfa.symm.trans g_law
  cases e
  have b := FunD.bindsA (ps := ["script"]) F_law fun _ _ _ _ _ _ us hl => match us, hl with | [_], _ => rfl
  refine ⟨fd_law, fun s v => b s [v] rfl, fun base _ _ => ?_⟩
  have D_factored : DOk P w K mg base CX0 "factored" _ _ _ := ⟨⟨_, _, ok_factored F_factored T, g_factored, F_factored.kp, b_factored⟩⟩
  have D_is_prime : DOk P w K mg base CX0 "is_prime" _ _ _ := ⟨⟨_, _, ok_is_prime F_is_prime T, g_is_prime, F_is_prime.kp, b_is_prime⟩⟩
  have D__law_bag : DOk P w K mg base CX0 "_law_bag" _ _ _ := ⟨⟨_, _, ok_bag F__law_bag T, g__law_bag, F__law_bag.kp, b__law_bag⟩⟩
  have D__law_take : DOk P w K mg base CX0 "_law_take" _ _ _ := ⟨⟨_, _, ok_take F__law_take T, g__law_take, F__law_take.kp, b__law_take⟩⟩
  have D__law_is_integer : DOk P w K mg base CX0 "_law_is_integer" _ _ _ := ⟨⟨_, _, ok_isint F__law_is_integer T, g__law_is_integer, F__law_is_integer.kp, b__law_is_integer⟩⟩
  have D__law_prime : DOk P w K mg base CX0 "_law_prime" _ _ _ := ⟨⟨_, _, ok_law_prime F__law_prime T, g__law_prime, F__law_prime.kp, b__law_prime⟩⟩
  have D__law_prime_below : DOk P w K mg base CX0 "_law_prime_below" _ _ _ := ⟨⟨_, _, ok_below F__law_prime_below T D__law_prime, g__law_prime_below, F__law_prime_below.kp, b__law_prime_below⟩⟩
  have D__law_number : DOk P w K mg base CX0 "_law_number" _ _ _ := ⟨⟨_, _, ok_number F__law_number T D__law_take D__law_prime_below, g__law_number, F__law_number.kp, b__law_number⟩⟩
  have D__law_negative : DOk P w K mg base CX0 "_law_negative" _ _ _ := ⟨⟨_, _, ok_negative F__law_negative T D__law_take, g__law_negative, F__law_negative.kp, b__law_negative⟩⟩
  have D__law_holds : DOk P w K mg base CX0 "_law_holds" _ _ _ := ⟨⟨_, _, ok_holds F__law_holds T D__law_is_integer D__law_prime, g__law_holds, F__law_holds.kp, b__law_holds⟩⟩
  have D__law_judged : DOk P w K mg base CX0 "_law_judged" _ _ _ := ⟨⟨_, _, ok_judged F__law_judged T D_is_prime D__law_prime, g__law_judged, F__law_judged.kp, b__law_judged⟩⟩
  exact ok_law F_law T D__law_bag D__law_number D__law_negative D_factored D__law_holds D__law_judged
end K01
open PySem PySem.W PySem.Calls PyProof.Rows
set_option maxRecDepth 100000 in
set_option maxHeartbeats 0 in
theorem PySem.Challenge.cw_stepsvanish_k01_numbers_factored_holds : PySem.Challenge.rw_stepsvanish_k01_numbers_factored.Holds := by
  w_on; o_law
  refine HandSHeadRun.head_any (r := OpenLaw.row PySem.Challenge.rw_stepsvanish_k01_numbers_factored) (q := view (OpenLaw.row PySem.Challenge.rw_stepsvanish_k01_numbers_factored).prog [13]) (H := K01.hkL) (ob := K01.obL) (M := 6000) (loose := K01.looseL) (d := HandSHeadRun.topDef (OpenLaw.row PySem.Challenge.rw_stepsvanish_k01_numbers_factored).prog 13) (kwd := []) K01.obL_eq
    (by kernel_rfl) (fun s => by kernel_rfl) K01.runL (by kernel_rfl) (by kernel_rfl) (by kernel_rfl) (by rfl) (by first | assumption | decide +kernel) (by decide +kernel) ⟨rfl, rfl, rfl, rfl, rfl, by decide +kernel⟩ ?hw ?hc
  case hw => w_witness2
  case hc =>
    refine L2.walk_ofE (l := PySem.Challenge.rw_stepsvanish_k01_numbers_factored) (n := 63) (k := 4) (x := "script") (CX := L2.CX0) rfl (by decide) (by kernel_rfl) ⟨rfl, by decide, by decide⟩ ?F (fun _ _ _ _ z => z)
    intro w mg fa h Y G hmg0
    obtain ⟨K, KX, c⟩ := Y
    have hmg : mg ("law" : PySem.Str) = some (.ref fa) := by
      have e : (HandSHeadRun.topDef (OpenLaw.row PySem.Challenge.rw_stepsvanish_k01_numbers_factored).prog 13).name = ("law" : PySem.Str) := by kernel_rfl
      rw [← e]
      exact hmg0
    obtain ⟨fd, hb, hF⟩ := K01.factsL (P := (PySem.Challenge.rw_stepsvanish_k01_numbers_factored).prog) (w := w) KX G hmg c
    exact ⟨K, fd, K01.sp_law K, KX, hb, fun H a ns hl _ hS => ⟨a, ns, rfl, hS, hl, fun _ => rfl⟩, hF⟩

