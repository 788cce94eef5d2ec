import PyProof.Rows.All
import Wide.All
import OpenK.AllK
import Wide.FinOn
import KE.KStateDown
import HandS.ForMost
import HandS.ForExc
import HandS.More
import HandS.Defaults
import HandS.IsInst
import HandS.Wide
import HandS.Conv
import HandS.Flow
import HandS.Zip
import HandS.Head0
import HandS.Head1
import HandS.Head2
import HandS.HeadEnd
import HandS.HeadHook1
import HandS.HeadHook2
import KE.GoesMore
import KE.GoesEnum
import HandS.OwnEq
import HandS.SortRule
import HandS.Deep
import HandS.ExcIs
import HandS.TryMany
import HandS.CallSlots
import HandS.Strs
import HandS.SortInts
import HandS.RevRange
import HandS.SlotsOwn
import PySem.Challenge.RW_stepsvanish_k10_columns_as_permutations
set_option Elab.async false
set_option linter.all false
set_option maxRecDepth 100000
namespace Rd
open PySem PySem.Spec PyProof.Rows L2
/-! ### readings, step by step -/
section
variable {D : Ends} {σ : L2.St} {H : Hp} {t u : TS} {te ta tb tc : TE} {g : TG} {Q : VK} {v x y z : V} {c c1 c2 : TT} {i j : Int} {n : Nat} {K : PySem.W.Frag} {r r' : R2}
theorem seq (h : t { D with nx := u D } σ H) : tSeq t u D σ H := h
theorem seqA {u : TS} (h : tAsg te g { D with nx := u D } σ H) : tSeq (tAsg te g) u D σ H := h
theorem seqD {u : TS} (h : tDrop te { D with nx := u D } σ H) : tSeq (tDrop te) u D σ H := h
theorem seqF {u : TS} {wi : TI} {tb : TS} (h : tFor wi g tb { D with nx := u D } σ H) : tSeq (tFor wi g tb) u D σ H := h
theorem seqW {u : TS} {tb : TS} (h : tWhile c tb { D with nx := u D } σ H) : tSeq (tWhile c tb) u D σ H := h
/-- ways that join: what holds behind t, said once -/
theorem seqJ (P : L2.St → Hp → Prop) (h1 : ∀ σ' H', P σ' H' → u D σ' H') (h2 : ∀ N : L2.St → Hp → Prop, (∀ σ' H', P σ' H' → N σ' H') → t { D with nx := N } σ H) : tSeq t u D σ H := h2 _ h1
theorem nxt (h : D.nx σ H) : tNext D σ H := h
theorem asg (h : te σ H fun x H1 => g x σ H1 D.nx) : tAsg te g D σ H := h
theorem nm {P : L2.St → Hp → Prop} (h : P (σ.set n (some v)) H) : gName n v σ H P := h
theorem sub {to ti : TE} {t : TSet} {P : L2.St → Hp → Prop} (h : to σ H fun o H1 => ti σ H1 fun i H2 => t o i v H2 fun H3 => P σ H3) : gSub to ti t v σ H P := h
theorem setL {p : Addr} {xs : List V} {k : Int} {j : Nat} {P : Hp → Prop} (h1 : H p = some (.lst xs)) (h2 : ixN xs.length k = some j) (h : P (upd H p (.lst (xs.set j v)))) : rSetL (.ref p) (.int k) v H P := ⟨p, xs, k, j, rfl, rfl, h1, h2, h⟩
theorem var (e : σ[n]? = some (some v)) (h : Q v H) : tVar n σ H Q := ⟨v, e, h⟩
theorem con (h : Q v H) : tC v σ H Q := h
theorem op (h : ta σ H fun x H1 => tb σ H1 fun y H2 => r x y H2 Q) : tOp r ta tb σ H Q := h
theorem i0 {f : Int → Int → V} (h : Q (f i j) H) : rI0 f (.int i) (.int j) H Q := ⟨i, j, rfl, rfl, h⟩
theorem iC {C : Int → Int → Prop} {f : Int → Int → V} (hc : C i j) (h : Q (f i j) H) : rI C f (.int i) (.int j) H Q := ⟨i, j, rfl, rfl, hc, h⟩
theorem un {r : V → Hp → VK → Prop} (h : ta σ H fun x H1 => r x H1 Q) : tUn r ta σ H Q := h
theorem u0 {f : Int → V} (h : Q (f i) H) : rU f (.int i) H Q := ⟨i, rfl, h⟩
theorem eqI (h : Q (.bl (decide (i = j))) H) : rEq (.int i) (.int j) H Q := ⟨rfl, (show Q (.bl (decide (V.int i = V.int j))) H from by rw [show decide (V.int i = V.int j) = decide (i = j) from decide_eq_decide.mpr ⟨V.int.inj, congrArg _⟩]; exact h)⟩
theorem neI (h : Q (.bl (!decide (i = j))) H) : rNe (.int i) (.int j) H Q := ⟨rfl, (show Q (.bl (!decide (V.int i = V.int j))) H from by rw [show decide (V.int i = V.int j) = decide (i = j) from decide_eq_decide.mpr ⟨V.int.inj, congrArg _⟩]; exact h)⟩
theorem eqB {a b : Bool} (h : Q (.bl (a == b)) H) : rEq (.bl a) (.bl b) H Q := ⟨rfl, (show Q (.bl (decide (V.bl a = V.bl b))) H from by rw [dec_bl]; exact h)⟩
theorem tst {P : Bool → Hp → Prop} (h : te σ H fun x H' => ∃ k, x = .bl k ∧ P k H') : tTest te σ H P := h
theorem tB_ {P : Bool → Hp → Prop} (h : te σ H fun x H' => ∃ k, x = .bl k ∧ P k H') : tB te σ H P := h
theorem exb {P : Bool → Prop} {b : Bool} (h : P b) : ∃ k, V.bl b = .bl k ∧ P k := ⟨b, rfl, h⟩
theorem ifS (h : c σ H fun b H1 => if b = true then t D σ H1 else u D σ H1) : tIfS c t u D σ H := h
theorem ret (h : te σ H D.rt) : tRet te D σ H := h
theorem retN (h : D.rt .non H) : tRetN D σ H := h
theorem drop (h : te σ H fun _ H1 => D.nx σ H1) : tDrop te D σ H := h
theorem nil {P : List V → Hp → Prop} (h : P [] H) : tNil σ H P := h
theorem cons {ts : TA} {P : List V → Hp → Prop} (h : ta σ H fun x H1 => ts σ H1 fun xs H2 => P (x :: xs) H2) : tCons ta ts σ H P := h
theorem cb {r : List V → Hp → VK → Prop} {ts : TA} (h : ts σ H fun vs H1 => r vs H1 Q) : tCB r ts σ H Q := h
theorem call {sp : Sp} {E : XK} {ts : TA} (h : ts σ H fun vs H1 => sp (vs ++ []) H1 Q E) : tCall sp [] E ts σ H Q := h
theorem andT {P : Bool → Hp → Prop} (h : c1 σ H fun b H1 => if b = true then c2 σ H1 P else P false H1) : tAnd c1 c2 σ H P := h
theorem orT {P : Bool → Hp → Prop} (h : c1 σ H fun b H1 => if b = true then P true H1 else c2 σ H1 P) : tOr c1 c2 σ H P := h
theorem notT {P : Bool → Hp → Prop} (h : c σ H fun b H1 => P (!b) H1) : tNot c σ H P := h
theorem andV (h : ta σ H fun x H1 => ∃ c, x = .bl c ∧ if c = true then tb σ H1 Q else Q (.bl false) H1) : tAndV ta tb σ H Q := h
theorem orV (h : ta σ H fun x H1 => ∃ c, x = .bl c ∧ if c = true then Q (.bl true) H1 else tb σ H1 Q) : tOrV ta tb σ H Q := h
theorem notV (h : ta σ H fun x H1 => ∃ c, x = .bl c ∧ Q (.bl (!c)) H1) : tNotV ta σ H Q := h
theorem chain (h : ta σ H fun x H1 => tb σ H1 fun y H2 => r x y H2 fun z H3 => ∃ k, z = .bl k ∧ (if k = true then tc σ H3 fun w' H4 => r' y w' H4 Q else Q (.bl false) H3)) : tChain r r' ta tb tc σ H Q := h
theorem ixL {p : Addr} {xs : List V} (h1 : SqL K H p xs) (h2 : atI xs i = some v) (h : Q v H) : rIxL K (.ref p) (.int i) H Q := ⟨p, xs, i, v, rfl, rfl, h1, h2, h⟩
theorem ixT {p : Addr} {xs : List V} (h1 : SqT K H p xs) (h2 : atI xs i = some v) (h : Q v H) : rIxT K (.ref p) (.int i) H Q := ⟨p, xs, i, v, rfl, rfl, h1, h2, h⟩
theorem lst {ts : TA} (h : ts σ H fun xs H1 => xs.length ≤ sizeLine ∧ ∀ p, H1 p = none → Q (.ref p) (upd H1 p (.lst xs))) : tLst ts σ H Q := h
theorem tup {ts : TA} (h : ts σ H fun xs H1 => xs.length ≤ sizeLine ∧ ∀ p, H1 p = none → Q (.ref p) (upd H1 p (.tup xs))) : tTup ts σ H Q := h
theorem for_ {wi : TI} {tb : TS} (h : wi σ H fun J H1 => ∃ W : Nat → Nat → L2.St → Hp → Prop, (∃ m, W 0 m σ H1) ∧ ∀ i m σ H, W i m σ H →
  (J.stop i H ∧ D.nx σ H) ∨ (J.go i H ∧ ∃ N : L2.St → Hp → Prop, (∀ σ' H', N σ' H' → ∃ m', m' < m ∧ W (i + 1) m' σ' H') ∧ ∀ x H', J.yld i H x H' → g x σ H' fun σ2 H2 => tb { D with nx := N, ct := N, bk := D.nx } σ2 H2)) : tFor wi g tb D σ H := h
theorem rng1 {ts : TA} {R : It → Hp → Prop} (h : ts σ H fun vs H1 => ∃ j : Int, vs = [.int j] ∧ -(2 ^ 62) ≤ j ∧ j < 2 ^ 62 ∧ R (Itr 0 j.toNat) H1) : iRng1 ts σ H R := h
theorem rng1' {j : Int} {P : Int → Prop} (h1 : -(2 ^ 62) ≤ j) (h2 : j < 2 ^ 62) (h : P j) : ∃ k : Int, [V.int j] = [.int k] ∧ -(2 ^ 62) ≤ k ∧ k < 2 ^ 62 ∧ P k := ⟨j, rfl, h1, h2, h⟩
theorem rng2' {i j : Int} {P : Int → Int → Prop} (h1 : -(2 ^ 62) ≤ i ∧ i < 2 ^ 62 ∧ -(2 ^ 62) ≤ j ∧ j < 2 ^ 62) (h : P i j) : ∃ a b : Int, [V.int i, V.int j] = [.int a, .int b] ∧ (-(2 ^ 62) ≤ a ∧ a < 2 ^ 62 ∧ -(2 ^ 62) ≤ b ∧ b < 2 ^ 62) ∧ P a b := ⟨i, j, rfl, h1, h⟩
theorem lrg {te : L2.St → Hp → (Int → Int → Hp → Prop) → Prop} (h : te σ H fun a b H1 => RgOk a b ∧ ∀ q, H1 q = none → Q (.ref q) (upd H1 q (.lst (rgV a b)))) : tLstRg te σ H Q := h
theorem rg1 {P : Int → Int → Hp → Prop} (h : ta σ H fun x H1 => ∃ n, x = .int n ∧ P 0 n H1) : tRg1 ta σ H P := h
theorem rg2 {P : Int → Int → Hp → Prop} (h : ta σ H fun x H1 => tb σ H1 fun y H2 => ∃ i j, x = .int i ∧ y = .int j ∧ P i j H2) : tRg2 ta tb σ H P := h
theorem exi {P : Int → Prop} (h : P i) : ∃ n, V.int i = .int n ∧ P n := ⟨i, rfl, h⟩
theorem exi2 {P : Int → Int → Prop} (h : P i j) : ∃ a b, V.int i = .int a ∧ V.int j = .int b ∧ P a b := ⟨i, j, rfl, rfl, h⟩
theorem rng2 {ts : TA} {R : It → Hp → Prop} (h : ts σ H fun vs H1 => ∃ i j : Int, vs = [.int i, .int j] ∧ (-(2 ^ 62) ≤ i ∧ i < 2 ^ 62 ∧ -(2 ^ 62) ≤ j ∧ j < 2 ^ 62) ∧ R (Itr i (j - i).toNat) H1) : iRng2 ts σ H R := h
theorem itl {tl : TE} {R : It → Hp → Prop} (h : tl σ H fun x H1 => ∃ a, x = .ref a ∧ (∃ xs, SqL K H1 a xs) ∧ R (Itl K a) H1) : iList K tl σ H R := h
theorem itt {tl : TE} {R : It → Hp → Prop} (h : tl σ H fun x H1 => ∃ a, x = .ref a ∧ (∃ xs, SqT K H1 a xs) ∧ R (Itt K a) H1) : iTup K tl σ H R := h
theorem itl' {a : Addr} {xs : List V} {P : Addr → Prop} (h1 : SqL K H a xs) (h : P a) : ∃ b, V.ref a = .ref b ∧ (∃ xs, SqL K H b xs) ∧ P b := ⟨a, rfl, ⟨xs, h1⟩, h⟩
theorem itt' {a : Addr} {xs : List V} {P : Addr → Prop} (h1 : SqT K H a xs) (h : P a) : ∃ b, V.ref a = .ref b ∧ (∃ xs, SqT K H b xs) ∧ P b := ⟨a, rfl, ⟨xs, h1⟩, h⟩
theorem ite_d {A B C : Prop} [Decidable C] (h1 : C → A) (h2 : ¬ C → B) : if decide C = true then A else B := by
  by_cases h : C
  · rw [if_pos (decide_eq_true h)]; exact h1 h
  · rw [if_neg (by rw [decide_eq_false h]; exact Bool.false_ne_true)]; exact h2 h
theorem ite_n {A B C : Prop} [Decidable C] (h1 : ¬ C → A) (h2 : C → B) : if (!decide C) = true then A else B := by
  by_cases h : C
  · rw [decide_eq_true h]; exact (if_neg Bool.false_ne_true).mpr (h2 h)
  · rw [decide_eq_false h]; exact (if_pos rfl).mpr (h1 h)
theorem ite_b {A B : Prop} {b : Bool} (h1 : b = true → A) (h2 : b = false → B) : if b = true then A else B := by
  cases b with
  | true => exact (if_pos rfl).mpr (h1 rfl)
  | false => exact (if_neg Bool.false_ne_true).mpr (h2 rfl)
theorem ite_nb {A B : Prop} {b : Bool} (h1 : b = false → A) (h2 : b = true → B) : if (!b) = true then A else B := by
  cases b with
  | true => exact (if_neg Bool.false_ne_true).mpr (h2 rfl)
  | false => exact (if_pos rfl).mpr (h1 rfl)
theorem len1 {p : Addr} {xs : List V} {P : Addr → List V → Prop} (h1 : SqL K H p xs ∨ SqT K H p xs) (h : P p xs) : ∃ q ys, [V.ref p] = [.ref q] ∧ (SqL K H q ys ∨ SqT K H q ys) ∧ P q ys := ⟨p, xs, rfl, h1, h⟩
theorem int1 {P : Int → Prop} {B : Prop} (h : P i) : (∃ j, [V.int i] = [.int j] ∧ P j) ∨ B := Or.inl ⟨i, rfl, h⟩
theorem ex1 {P : Int → Prop} (h : P i) : ∃ j, [V.int i] = [.int j] ∧ P j := ⟨i, rfl, h⟩
theorem ex2 {P : Int → Int → Prop} (h : P i j) : ∃ a b, [V.int i, V.int j] = [.int a, .int b] ∧ P a b := ⟨i, j, rfl, h⟩

theorem isi {T : String} {t : Value} {b : Bool} (ty : TyX K H x t) (e : PySem.W.kitOne K t (.type T) = some b) (h : Q (.bl b) H) : rIsi K [x, .ty T] H Q := ⟨x, .ty T, t, .type T, b, rfl, .ty T, ty, e, h⟩
end
theorem kit_ty {K : PySem.W.Frag} {a b : String} {v : Bool} (h : PySem.W.kitOne [] (.type a) (.type b) = some v) (h2 : ∀ K : PySem.W.Frag, PySem.W.kitOne K (.type a) (.type b) = PySem.W.kitOne [] (.type a) (.type b) := by intro K; rfl) : PySem.W.kitOne K (.type a) (.type b) = some v := (h2 K).trans h
theorem RelV_ty (n : String) : RelV (.ty n) (.type n) := rfl
/-! ### heaps -/
theorem same_mk {H : Hp} {p : Addr} {o : HO} (h : H p = none) : Same H (upd H p o) := fun b w e => by
  rw [upd_ne (ne_of_none e h)]
  exact e
theorem same_t {K : PySem.W.Frag} {H H' : Hp} {a : Addr} {xs : List V} (e : Same H H') (h : SqT K H a xs) : SqT K H' a xs := by
  rcases h with (h | ⟨o,
        h⟩) | h
  · exact .inl (.inl (e _ _ h))
  · exact .inl (.inr
        ⟨o, e _ _ h⟩)
  · exact .inr h
theorem same_mut {H H' : Hp} {p : Addr} {o : HO} (e : Same H H') (h : H p = none) : Same H (upd H' p o) := fun b w hb => by
  rw [upd_ne (ne_of_none hb h)]
  exact e _ _ hb
theorem same_add {H H' : Hp} {p : Addr} {o : HO} (e : Same H H') (h : H' p = none) : Same H (upd H' p o) := fun b w hb => by
  rw [upd_ne (ne_of_none (e _ _ hb) h)]
  exact e _ _ hb
/-- all but a -/
def But (a : Addr) (H H' : Hp) : Prop := ∀ b o, b ≠ a → H b = some o → H' b = some o
theorem But.refl (a : Addr) (H : Hp) : But a H H := fun _ _ _ h => h
theorem But.trans {a : Addr} {H H1 H2 : Hp} (x : But a H H1) (y : But a H1 H2) : But a H H2 := fun b o n h => y b o n (x b o n h)
theorem But.put {a : Addr} {H : Hp} {o : HO} : But a H (upd H a o) := fun b w n e => by rw [upd_ne n]; exact e
theorem But.of {a : Addr} {H H' : Hp} (x : Same H H') : But a H H' := fun b o _ h => x b o h
/-! ### a def, called -/
structure DOk (P : Program) (w : World) (K : PySem.W.Frag) (mg : Str → Option Value) (base : Heap) (CX : CXT) (x : Str) (k : Nat) (ps : List Str) (sp : Sp) : Prop where
  ok : ∃ f fd, FnOk P w K mg base CX k f fd ps sp ∧ mg x = some (.ref f) ∧ PySem.W.keepIn K (.ref f) = true ∧ Binds K fd ps []
section
variable {X : Cx} {x : Str} {p pos : Pos} {e : Expr} {es : List Expr} {ts : TA} {k : Nat} {ps : List Str} {sp : Sp}
theorem callD (D : DOk X.prog X.w X.K X.mg X.base CX0 x k ps sp) (hr : Room k X.A) (ha : PA X (e :: es) ts) (hg : Gl X x := by rfl) (hdb : (x == ("__debug__" : Str)) = false := by decide)
    (he : starEach (e :: es) X.env = (false, eval e X.env) :: starEach es X.env :=
          by rfl) (hpl : (backTo pos (starEach es X.env)).any (·.1) = false := by rfl) :
    PE X (.Call (.Name x p) (e :: es) [] pos) (tCall sp [] E0 ts) := by
  obtain ⟨f, fd, F, hm, hk, hb⟩ := D.ok
  exact pe_call F hr hg hm hk hb .nil pass0 ha hdb he hpl
theorem callD0 (D : DOk X.prog X.w X.K X.mg X.base CX0 x k ps sp) (hr : Room k X.A) (hg : Gl X x := by rfl) (hdb : (x == ("__debug__" : Str)) = false := by decide) :
    PE X (.Call (.Name x p) [] [] pos) (tCall sp [] E0 tNil) := by
  obtain ⟨f, fd, F, hm, hk, hb⟩ := D.ok
  exact pe_call0 F hr hg hm hk hb .nil pass0 hdb
end
/-- a def of the text, without defaults, as a datum of the head -/
abbrev FnP (K : PySem.W.Frag) (x q : Str) (st : Stmt) (f : Addr) (fd : FuncData) : Prop := FunD K x q (defArgs st) (defBody st) (defScope st) [] [] f fd
end Rd

set_option Elab.async false
set_option linter.all false
set_option maxRecDepth 100000
set_option maxHeartbeats 2000000
/-! rules of this repo's own: what the layer lacks -/
namespace Rx
open PySem PySem.Spec PyProof.Rows L2 RZ
open AutoSeq1 (wpAny_loadPart')
/-! ### enumerate over a tuple -/
theorem enumNewT (l : Addr) (vals : Array Value) (n : Nat) (dct : Option Addr) (sl : Array (Option Value)) :
    Meets (Builtin.«enumerate.__new__» ⟨[.type "enumerate", .ref l], []⟩) (fun _ R s => s.heap.get? l = some { cls := .type "tuple", dict := dct, data := .seq vals n, slots := sl } ∧
      R (.ok (.ret (.ref (s.heap.push { cls := .type "tuple_iterator", data := .fields #[.ref l, .int 0 0] }).objs.size)))
        { s with heap := (s.heap.push { cls := .type "tuple_iterator", data := .fields #[.ref l, .int 0 0] }).push { cls := .type "enumerate", data := .fields #[.none, .bool false, .ref s.heap.objs.size, rawInt 0, .none, .none] } }) :=
  .of_wp fun prog
        w A R s h => by
    obtain ⟨hp, g,
          d, tk, os⟩ := s
    obtain ⟨hl, h⟩ := h
    have hsub := sub_enumerate
    have hT : Heap.IsTuple (Shared.heap ⟨hp, g, d, tk, os⟩) l vals := ⟨_, hl, rfl, n, rfl⟩
    wp_walk using
          wpAny_loadPart' hl
    refine wpAny_stack_any
          fun st => wpAny_pure ?_
    split
    · rename_i c _ _ _ _ _
      cases (c == Value.type
            "enumerate")
      · wp_walk using wpAny_loadPart' hl, wpAny_pyIter_tuple hT
        exact ⟨_, rfl, h⟩
      · wp_walk using wpAny_loadPart' hl, wpAny_pyIter_tuple hT
        exact ⟨_, rfl, h⟩
    · wp_walk using wpAny_loadPart' hl, wpAny_pyIter_tuple hT
      exact ⟨_, rfl, h⟩
section
variable {prog : Program} {w : World} {A :
      Around} {E : Value → Shared → Prop} {s : Shared}
theorem callEnumT {l : Addr} {vals : Array Value} {Q : Value → Shared → Prop} (hL : s.heap.IsTuple l vals)
    (h : ∀ h', IsEnum h' (s.heap.objs.size + 1) s.heap.objs.size 0 .none → h'.IsTupleIter s.heap.objs.size l 0 → h'.objs.size = s.heap.objs.size + 2 →
      (∀ b o, s.heap.get? b = some o → h'.get? b = some
            o) → Q (.ref (s.heap.objs.size + 1)) { s with heap := h' }) :
    wpAny (model prog w) A (PySem.call (.type "enumerate") [.ref l]) Q E s := by
  obtain ⟨⟨c, dct, dt, sl⟩,
        hl, hc, n, hd⟩ := hL
  replace hc : c = .type "tuple" := hc
  replace hd : dt = .seq vals n := hd
  subst hc hd
  refine callType_new F.called_enumerate (by decide) (F.typeCall_enumerate_1
        _) (F.newCall_enumerate_1 _) (fun obj => F.args_object_init_2 obj _) F.entry_enumerate_new
    (enumNewT l vals n dct sl) ⟨hl, ?_⟩
  have hz : (s.heap.push { cls := .type "tuple_iterator", data := .fields #[.ref l, .int 0 0] }).objs.size = s.heap.objs.size + 1 := Heap.size_push ..
  show _ ∧ _
  rw [hz]
  have he : IsEnum ((s.heap.push { cls := .type "tuple_iterator", data := .fields #[.ref l, .int 0 0] }).push
      { cls := .type "enumerate", data := .fields #[.none, .bool false, .ref s.heap.objs.size,
            rawInt 0, .none, .none] }) (s.heap.objs.size + 1) s.heap.objs.size 0 .none := by
    have := Heap.get?_push_size (s.heap.push { cls := .type "tuple_iterator", data := .fields #[.ref l, .int 0 0] })
      (o := { cls := .type "enumerate", data := .fields #[.none, .bool
            false, .ref s.heap.objs.size, rawInt 0, .none, .none] }) rfl
    rw [hz] at this; exact this
  refine ⟨⟨_, he, rfl⟩, h _ he ⟨_, Heap.get?_push_of_some _ (Heap.get?_push_size _ rfl), rfl, rfl⟩
        (by rw [Heap.size_push, hz]) fun b o x => Heap.get?_push_of_some _ (Heap.get?_push_of_some _ x)⟩
end
/-- the tuple at a, each item in a new pair with its place -/
def IteT (K : PySem.W.Frag) (a : Addr) : It :=
  ⟨fun i H => ∃ (xs : List V) (x : V), SqT K H a xs ∧ xs[i]? = some x, fun i H v H' => ∃ T x, v = .ref T ∧ H T = none ∧ H' = upd H T (.tup [.int (i : Nat), x]) ∧ ∀ xs, SqT K H a xs → xs[i]? = some x, fun i H => ∃ xs : List V, SqT K H a xs ∧ xs.length ≤ i⟩
theorem turnEnumT {P : Program} {w : World} {K : PySem.W.Frag} {elts : List Expr} {kk : Nat} {tpos : Pos} (a e it : Addr) :
    Turn P w K (.Tuple elts kk tpos) (IteT K a) [e, it] e (fun i h => (∃ old, IsEnum h e it ((i : Nat) : Int) old) ∧ h.IsTupleIter it a i ∧ e ≠ it ∧ a ≠ it ∧ e ≠ a) where
  mem := by simp
  obj := fun i h st b hb => by
    obtain ⟨⟨old, he⟩, ⟨o,
          ho, hc, hd⟩, _⟩ := st
    have e' : b = e ∨ b =
          it := by simpa using hb
    rcases e' with z | z
    · rw [z]; exact ⟨_, he,
          fun v q => nomatch q⟩
    · rw [z]; exact ⟨o, ho, fun v
          q => by rw [hd] at q; cases q⟩
  keep := fun i h h' st k => let ⟨⟨old, he⟩, hi, hne⟩ := st; ⟨⟨old,
        k e (by simp) _ he⟩, hi.at fun o q => k it (by simp) o q, hne⟩
  item := by
    intro X hP hw hK hc i
          pins s σ H E I hf st hg
    subst hP hw hK
    obtain ⟨⟨old, he⟩, hit, hne, hat, hea⟩ := st
    obtain ⟨xs, x, hq, hx⟩ := hg
    obtain ⟨its, rv, p,
          hz⟩ := I.tuple hq
    obtain ⟨u, hu,
          ru⟩ := rv.get hx
    have hel : e < s.heap.objs.size
          := Heap.lt_size he
    have hil : it < s.heap.objs.size := by
      obtain ⟨_, q, _⟩ := hit
      exact Heap.lt_size q
    have hlt : i < its.toArray.size := by
      have := (List.getElem?_eq_some_iff.mp hu).1
      simpa using this
    have D := Draws.tuple (prog := X.prog) (w := X.w) (A := X.A.in1) (I.ok.hd hc) it a hat its.toArray
    refine wpAny_pyNext_enum_itemD D he ⟨hit, p⟩ hlt hne (by simp only [List.mem_cons, List.not_mem_nil, or_false, not_or]; exact ⟨hne, hea⟩) fun y h' tk hy ho hit' hT hsz hk => ?_
    have ey : y = u := by
      have h1 : its.toArray[i]? = some u := by simpa using hu
      rw [h1] at hy
      exact (Option.some.inj hy).symm
    subst ey
    refine ⟨_, rfl, wpAny_letOwnedTupleGo_enum (s := { s with heap := h', toks := tk + 1 }) ho fun h'' he' sb => ?_⟩
    have hT2 : h''.get? s.heap.objs.size = some { cls := .type "tuple", data := .seq #[.int i tk, y] } := (sb.2 _ (Nat.ne_of_gt hel)).trans hT
    have new : ObjOk X.prog X.w (upd H s.heap.objs.size (.tup [.int (i
          : Nat), x])) h'' s.heap.objs.size (.tup [.int (i : Nat), x]) :=
      ⟨by show 2 ≤ sizeLine; decide, [.int i tk, y], .cons ⟨_, rfl⟩ (.cons ru .nil), ⟨_, hT2, rfl, _, rfl⟩⟩
    have I1 : Inv X pins σ (upd H s.heap.objs.size (.tup [.int (i : Nat), x])) { s with heap := h'', toks := tk + 1 } :=
      I.turnedNew (ch := [e, it]) (fun b ob hb q => (sb.2 b (fun z => hb (by simp [z]))).trans
            (hk b ob (fun z => hb (by simp [z])) (fun z => hb (by simp [z])) q)) hf (Nat.le_refl _) new
    refine ⟨.ref s.heap.objs.size, _, I1, rfl, ⟨_, x, rfl, I.hok.fresh (Nat.le_refl _), rfl, fun ys hy => by rw [I.tuple_inj hy hq]; exact hx⟩, ⟨⟨y, ?_⟩, hit'.1.at fun o q => (sb.2 it (Ne.symm hne)).trans q, hne, hat, hea⟩, fun b hb => ?_⟩
    · have e1 : ((i + 1 : Nat) :
          Int) = (i : Int) + 1 := by omega
      rw [e1]; exact he'
    · have hb' : b <
          s.heap.objs.size := by
        have e' : b = e ∨ b =
              it := by simpa using hb
        rcases e' with z | z
        · rw [z]; exact hel
        · rw [z]; exact hil
      rw [upd_ne
            (Nat.ne_of_lt hb')]
      exact (hf b hb).1
  done := by
    intro X hP hw hK hc i
          pins s σ H E I hf st hg
    subst hP hw hK
    obtain ⟨⟨old, he⟩, hit, hne, hat, hea⟩ := st
    obtain ⟨xs, hq, hx⟩ := hg
    obtain ⟨its, rv, p,
          hz⟩ := I.tuple hq
    obtain ⟨f0, f1, f2, f3,
          f4, f5⟩ := hf it (by simp)
    have hl := rv.length
    have hT : s.TypeIs (.ref
          e) "enumerate" := ⟨_, he, rfl⟩
    unfold pyNext
    refine wpAny_bind (wpAny_attempt (wpAny_callSpecial?_slot
          (name := Str.ofString "__next__") hT F.slot_enumerate_next
      (wpAny_call_entry F.slot_enumerate_next hT
            F.entry_enumerate_next ?_ (F.args_enumerate_next_1 _))))
    show wpAny _ _ (field
          (.ref e) 2 >>= _) _ _ _
    refine wpAny_bind (wpAny_field
          he rfl (x := .ref it) rfl ?_)
    refine wpAny_bind (wpAny_nextOf_tuple_end (I.ok.hd hc) hit p (by simp; omega) fun h' x he' hx' => ?_)
    obtain ⟨o, ho, hc'⟩ := hx'
    refine wpAny_bind (wpAny_isInstance (T := "StopIteration") (b := true) ⟨o, ho, hc'⟩ isSubtype_stop ?_)
    exact wpAny_pure ⟨rfl, I.turned (t' := s.toks) (fun b o hb q => he' b o hb q) f0 f1 f3 f4 f5⟩
  self := fun A i s Q E st h => let ⟨⟨_,
        he⟩, _⟩ := st; wpAny_pyIter_enum he h
def iEnumT (K : PySem.W.Frag) (ta : TA) : TI := fun σ H R => ta σ H fun vs H1 => ∃ a xs, vs = [.ref a] ∧ SqT K H1 a xs ∧ R (IteT K a) H1
theorem pi_enumT {X : Cx} {e : Expr} {ta : TA} {p pos tpos : Pos} {elts : List Expr} {kk : Nat} (hg : Gl X "enumerate") (hm : X.mg "enumerate" = none) (ha : PA X [e] ta) (hs : starEach [e] X.env = [(false, eval e X.env)] := by rfl) :
    PI X (.Tuple elts kk tpos) (.Call (.Name "enumerate" p) [e] [] pos) (iEnumT X.K ta) := by
  refine ⟨fun pins
        s σ H R I h => ?_⟩
  refine Call_ (ld_blt I hg hm boot_enumerate (PyProof.Rows.callWith_type1 (thn
        (ha.run pos pins s σ H _ I h) fun us s1 ⟨vs, H1, I1, r1, q1⟩ => ?_) hs rfl))
  obtain ⟨a, xs,
        ex, hq, q⟩ := q1
  subst ex
  cases r1 with
  | cons r rr =>
    cases rr
    cases r
    obtain ⟨its, rv, p', hz⟩ := I1.tuple hq
    have hal : a < s1.heap.objs.size := by obtain ⟨_, q, _⟩ := p'; exact Heap.lt_size q
    refine callEnumT p' fun h' he hit hsz hk => wpAny_pyIter_enum he ?_
    have I2 : Inv X pins σ H1 { s1 with heap
          := h' } := I1.kept (t' := s1.toks) hk
    refine ⟨s1.heap.objs.size + 1, [s1.heap.objs.size + 1, s1.heap.objs.size], _, _, H1, rfl, I2, turnEnumT a (s1.heap.objs.size + 1) s1.heap.objs.size, ⟨⟨.none, he⟩, hit, Nat.succ_ne_self _, Nat.ne_of_lt hal, Nat.ne_of_gt (Nat.lt_succ_of_lt hal)⟩, fun b hb => ?_, q⟩
    have e' : b = s1.heap.objs.size + 1 ∨ b
          = s1.heap.objs.size := by simpa using hb
    have hle :
          s1.heap.objs.size ≤ b := by
      rcases e' with z | z
      · rw [z]; exact
            Nat.le_add_right _ _
      · rw [z]; exact Nat.le_refl _
    exact I1.fpOk hle (I1.hok.fresh
          hle)
/-- for i, x in enumerate(t): the invariant -/
theorem for_enumT {K : PySem.W.Frag} {a : Addr} {xs : List V} {g : TG} {tb : TS} {D : Ends} {σ : L2.St} {H : Hp} (Pv : Nat → L2.St → Hp → Prop) (h0 : Pv 0 σ H) (hl : ∀ i σ H, Pv i σ H → SqT K H a xs)
    (hs : ∀ (i : Nat) (x : V) (T : Addr) (σ : L2.St) (H : Hp), xs[i]? = some x → Pv i σ H → H T = none → g (.ref T) σ (upd H T (.tup [.int (i : Nat), x])) fun σ2 H2 => tb { D with nx := Pv (i + 1), ct := Pv (i + 1), bk := D.nx } σ2 H2) (hd : ∀ σ H, Pv xs.length σ H → D.nx σ H) :
    ∃ W : Nat → Nat → L2.St → Hp → Prop, (∃
          m, W 0 m σ H) ∧ ∀ i m σ H, W i m σ H →
      ((IteT K a).stop i H ∧ D.nx σ H) ∨ ((IteT K a).go i H ∧ ∃ N : L2.St → Hp → Prop, (∀ σ' H', N σ' H' → ∃ m', m' < m ∧ W (i + 1) m' σ' H') ∧ ∀ x H', (IteT K a).yld i H x H' → g x σ H' fun σ2 H2 => tb { D with nx := N, ct := N, bk := D.nx } σ2 H2) := by
  refine ⟨fun i m σ H => m = xs.length - i ∧ i ≤ xs.length
        ∧ Pv i σ H, ⟨xs.length, by simp, Nat.zero_le _, h0⟩, ?_⟩
  rintro i m σ H ⟨rfl, hi, p⟩
  have q := hl i σ H p
  by_cases hlt : i < xs.length
  · refine .inr ⟨⟨xs, xs[i], q, by simp [hlt]⟩, Pv (i + 1), fun σ' H' p'
        => ⟨xs.length - (i + 1), by omega, rfl, hlt, p'⟩, fun x H' y => ?_⟩
    obtain ⟨T, x', rfl, hT, rfl, y⟩ := y
    exact hs i x' T σ H (y xs q) p hT
  · have e : i =
        xs.length := by omega
    subst e
    exact .inl ⟨⟨xs, q,
          Nat.le_refl _⟩, hd σ H p⟩
end Rx

set_option Elab.async false
set_option linter.all false
set_option maxRecDepth 100000
set_option maxHeartbeats 2000000
/-! rules of this repo's own: sorted of a list of lists of ints -/
namespace Rs
open PySem PySem.Spec PyProof.Rows L2 GQ PySem.SeqAt MeetsSeq MeetsSeq2 MeetsSeq3 SeqRoads2
open AutoSeq1 (wpAny_loadPart')
/-- the order of lists of ints -/
def ltL : List Int → List Int → Bool
  | _, [] => false
  | [], _ :: _ => true
  | x :: xs, y :: ys => if x = y then ltL xs ys else decide (x < y)
/-- an array of ints as values -/
def Nums (its : Array Value) (ns : List Int) : Prop := its.size = ns.length ∧ ∀ (j : Nat) (n : Int), ns[j]? = some n → ∃ t, its[j]? = some (.int n t)
section
variable {prog : Program} {w : World} {A
      : Around} {R : Result → Shared → Prop}
theorem lt_loop (l b : Addr) (its its2 : Array Value) (m m2 : Nat) (ns ms : List Int) (h1 : Nums its ns) (h2 : Nums its2 ms) (k : Nat) :
    ∀ i : Nat, ns.length - i = k → i ≤ ns.length → i ≤ ms.length → ∀ s : Shared, s.heap.get? l = some { cls := .type "list", data := .seq its m } → s.heap.get? b = some { cls := .type "list", data := .seq its2 m2 } →
      R (.ok (.ret (.bool (ltL (ns.drop i) (ms.drop i))))) s →
      wpAny (model prog w) A.in1 (Builtin.«list.__eq__.loop» ⟨[.ref l, .ref b, rawInt i, rawInt 0], []⟩) (FinOf prog w A R) (fun e s' => R (.error e) s') s := by
  induction k with
  | zero =>
    intro i hk hi hi2 s hl hb h
    have e : i = ns.length := by omega
    have e1 : its[((i : Nat) : Int).toNat]? = none := by
      rw [Array.getElem?_eq_none]; have := h1.1; simp; omega
    obtain ⟨hp, g,
          d, tk, os⟩ := s
    wp_walk using wpAny_loadPart'
          hl, wpAny_loadPart' hb
    rw [e1]
    wp_walk using wpAny_loadPart'
          hl, wpAny_loadPart' hb
    show R (.ok (.ret (.bool (decide (its.size < its2.size))))) _
    have e2 : ltL (ns.drop i) (ms.drop i) = decide (its.size < its2.size) := by
      rw [e, List.drop_length, h1.1, h2.1]
      by_cases c : ns.length < ms.length
      · rw [decide_eq_true c]
        obtain ⟨y, ys, q⟩ : ∃ y ys, ms.drop ns.length = y :: ys := by
          rw [List.drop_eq_getElem_cons c]; exact ⟨_, _, rfl⟩
        rw [q]; rfl
      · rw [decide_eq_false c, List.drop_of_length_le (by omega)]; rfl
    rw [← e2]; exact h
  | succ k ih =>
    intro i hk hi hi2 s hl hb h
    have hlt : i <
          ns.length := by omega
    obtain ⟨t, e1⟩ := h1.2 i ns[i] (List.getElem?_eq_getElem hlt)
    have e1' : its[((i : Nat) : Int).toNat]? = some (.int ns[i] t) := e1
    by_cases c : i < ms.length
    · obtain ⟨u, e2⟩ := h2.2 i ms[i] (List.getElem?_eq_getElem c)
      have e2' : its2[((i : Nat) : Int).toNat]? = some (.int ms[i] u) := e2
      have ed : ltL (ns.drop i) (ms.drop i) = if ns[i] = ms[i] then ltL (ns.drop (i + 1)) (ms.drop (i + 1)) else decide (ns[i] < ms[i]) := by
        rw [List.drop_eq_getElem_cons hlt, List.drop_eq_getElem_cons c]; rfl
      rw [ed] at h
      obtain ⟨hp, g,
            d, tk, os⟩ := s
      wp_walk using wpAny_loadPart'
            hl, wpAny_loadPart' hb
      rw [e1', e2']
      refine wpAny_bind (wpAny_eqBool_int
            ?_)
      by_cases q : ns[i] = ms[i]
      · rw [if_pos q] at h
        rw [show (ns[i] == ms[i]) = true from beq_iff_eq.mpr q]
        have hrec := ih (i + 1) (by omega) (by omega) (by omega) _ hl hb h
        have hc : ((i : Int) + 1) = ((i
              + 1 : Nat) : Int) := by omega
        wp_walk
        rw [hc]
        exact ⟨plainId_quiet plain_eq_loop
              _, codeAny_builtin entry_eq_loop (by
          rw [Around.under_plainId
                plain_eq_loop _]
          exact hrec)⟩
      · rw [if_neg q] at h
        rw [show (ns[i] == ms[i]) = false from beq_eq_false_iff_ne.mpr q]
        wp_walk using wpAny_loadPart'
              hl, wpAny_loadPart' hb
        rw [e1', e2']
        refine wpAny_bind (PyProof.Rows.lt_int ?_)
        exact wpAny_pure h
    · have e2' : its2[((i : Nat) : Int).toNat]? = none := by
        rw [Array.getElem?_eq_none]; have := h2.1; simp; omega
      have em : ms.drop i = [] := List.drop_of_length_le (by omega)
      rw [em] at h
      obtain ⟨hp, g,
            d, tk, os⟩ := s
      wp_walk using wpAny_loadPart'
            hl, wpAny_loadPart' hb
      rw [e1', e2']
      wp_walk using wpAny_loadPart'
            hl, wpAny_loadPart' hb
      show R (.ok (.ret (.bool (decide (its.size < its2.size))))) _
      rw [decide_eq_false (by rw [h1.1, h2.1]; omega)]
      rw [List.drop_eq_getElem_cons hlt] at h
      exact h
theorem list_lt (l b : Addr) (its its2 : Array Value) (m m2 : Nat) (ns ms : List Int) (h1 : Nums its ns) (h2 : Nums its2 ms) :
    Meets (Builtin.«list.__lt__» ⟨[.ref l, .ref b], []⟩) (fun A R s => s.heap.get? l = some { cls := .type "list", data := .seq its m } ∧ s.heap.get? b = some { cls := .type "list", data := .seq its2 m2 } ∧
      R (.ok (.ret (.bool (ltL ns ms)))) s) := by
  intro prog w A R s h
  obtain ⟨hl, hb, h⟩ := h
  have hrec := lt_loop (prog := prog) (w := w) (A := A) (R := R) l b its its2 m m2 ns ms h1 h2 _ 0 rfl (Nat.zero_le _) (Nat.zero_le _) s hl hb h
  obtain ⟨hp, g,
        d, tk, os⟩ := s
  have f3 :=
        AutoSeq1.sub_list_list
  wp_walk using wpAny_loadPart'
        hl, wpAny_loadPart' hb
  exact ⟨plainId_quiet plain_eq_loop
        _, codeAny_builtin entry_eq_loop (by
    rw [Around.under_plainId
          plain_eq_loop _]
    exact hrec)⟩
end

/-! ### the kind of such keys, their comparison in a sort -/
section
variable {prog : Program} {w : World} {A :
      Around} {E : Value → Shared → Prop} {s : Shared}
/-- the value is a list of these ints -/
def IsNums (h : Heap) (v : Value) (ns : List Int) : Prop := ∃ (a : Addr) (its : Array Value) (m : Nat), v = .ref a ∧ h.get? a = some { cls := .type "list", data := .seq its m } ∧ Nums its ns
theorem oneLt_lists {v u : Value} {ns ms : List Int} {Q : Bool → Shared → Prop} (hu : A.units < cLine) (h1 : IsNums s.heap v ns) (h2 : IsNums s.heap u ms) (h : Q (ltL ns ms) s) : wpAny (model prog w) A (oneLt' true v u) Q E s := by
  obtain ⟨a, its, m, rfl, e1, n1⟩ := h1
  obtain ⟨b, its2, m2, rfl, e2, n2⟩ := h2
  rw [oneLt'_eq]
  simp only [if_true]
  refine wpAny_bind (wpAny_cRoomFor
        hu ?_)
  refine wpAny_bind (wpAny_callSpecialIfBound?_slot ⟨_, e1, rfl⟩ F.slot_list_lt (call_meets F.slot_list_lt ⟨_, e1, rfl⟩ F.entry_list_lt (F.args_list_lt_2 _ _) (list_lt a b its its2 m m2 ns ms n1 n2) ⟨e1, e2, ?_⟩))
  show wpAny _ _ (truthOfDropped (.bool (ltL ns ms))) _ _ _
  exact wpAny_truthy_bool h
theorem firsts_lists : ∀ (vs : List Value) {Q : List (Option Value) → Shared → Prop}, (∀ v ∈ vs, ∃ ns, IsNums s.heap v ns) → Q (vs.map fun _ => none) s → wpAny (model prog w) A (vs.mapM firstOfTuple') Q E s
  | [], Q, _, h => by rw [List.mapM_nil]; exact wpAny_pure h
  | v :: vs, Q, hv, h => by
    obtain ⟨ns, a, its, m, rfl, e1, n1⟩ := hv v List.mem_cons_self
    rw [List.mapM_cons]
    refine wpAny_bind ?_
    show wpAny _ _ (typeOf (.ref a) >>= _) _ _ _
    refine wpAny_bind (wpAny_typeOf_ref e1 ?_)
    show wpAny _ _ (if (Value.type "list" != Value.type "tuple") = true then _ else _) _ _ _
    rw [if_pos (show (Value.type "list" != Value.type "tuple") = true from by decide +kernel)]
    refine wpAny_pure ?_
    refine wpAny_bind (firsts_lists vs (fun z hz => hv z (List.mem_cons_of_mem _ hz)) ?_)
    exact wpAny_pure h
theorem types_lists : ∀ (vs : List Value) {Q : List Value → Shared → Prop}, (∀ v ∈ vs, ∃ ns, IsNums s.heap v ns) → Q (vs.map fun _ => .type "list") s → wpAny (model prog w) A (vs.mapM typeOf) Q E s
  | [], Q, _, h => by rw [List.mapM_nil]; exact wpAny_pure h
  | v :: vs, Q, hv, h => by
    obtain ⟨ns, a, its, m, rfl, e1, n1⟩ := hv v List.mem_cons_self
    rw [List.mapM_cons]
    refine wpAny_bind (wpAny_typeOf_ref e1 ?_)
    refine wpAny_bind (types_lists vs (fun z hz => hv z (List.mem_cons_of_mem _ hz)) ?_)
    exact wpAny_pure h
theorem kind_lists {vs : List Value} {Q : SortKind → Shared → Prop} (hv : ∀ v ∈ vs, ∃ ns, IsNums s.heap v ns) (h2 : 2 ≤ vs.length) (h : Q oneType' s) : wpAny (model prog w) A (keyKind' vs.toArray) Q E s := by
  obtain ⟨v1, v2, vs, rfl⟩ : ∃ v1 v2 r, vs = v1 :: v2 :: r := by
    match vs, h2 with
    | v1 :: v2 :: r, _ => exact ⟨v1, v2, r, rfl⟩
  rw [keyKind'_eq, List.mapM_toArray]
  simp only [map_eq_pure_bind, bind_assoc, pure_bind]
  refine wpAny_bind (firsts_lists _ hv ?_)
  rw [if_neg (by simp),
        if_neg (by simp)]
  rw [oneTypeOnly'_eq, List.mapM_toArray]
  simp only [map_eq_pure_bind, bind_assoc, pure_bind]
  refine wpAny_bind (types_lists _ hv ?_)
  have hall : ((List.map (fun _ => Value.type "list") (v1 :: v2 :: vs)).toArray.all fun x => x == Value.type "list") = true := by
    simp only [List.all_toArray,
          List.all_map, List.all_eq_true]
    intro _ _
    rfl
  have h0 : (List.map (fun _ => Value.type "list") (v1 :: v2 :: vs)).toArray[0]? = some (Value.type "list") := by simp
  rw [h0]
  simp only [hall, if_true,
        pure_bind, Option.isSome_some]
  exact wpAny_pure h
end
theorem ltL_irr : ∀ x : List Int, ltL x x = false
  | [] => rfl
  | a :: x => by show (if a = a then ltL x x else _) = false; rw [if_pos rfl]; exact ltL_irr x
theorem ltL_asym : ∀ x y : List Int, ltL x y = true → ltL y x = false
  | _, [], h => by cases ‹List Int› <;> cases h
  | [], _ :: _, _ => rfl
  | a :: x, b :: y, h => by
    have h' : (if a = b then ltL x y else decide (a < b)) = true := h
    show (if b = a then ltL y x else decide (b < a)) = false
    by_cases e : a = b
    · rw [if_pos e] at h'; rw [if_pos e.symm]; exact ltL_asym x y h'
    · rw [if_neg e] at h'; rw [if_neg (fun q => e q.symm)]
      have := of_decide_eq_true h'
      exact decide_eq_false
            (by omega)
theorem ltL_neg : ∀ x y z : List Int, ltL x y = false → ltL y z = false → ltL x z = false
  | x, y, [], _, _ => by cases x <;> rfl
  | x, [], c :: z, _, h => by cases h
  | [], b :: y, c :: z, h, _ => by cases h
  | a :: x, b :: y, c :: z, h1, h2 => by
    have h1' : (if a = b then ltL x y else decide (a < b)) = false := h1
    have h2' : (if b = c then ltL y z else decide (b < c)) = false := h2
    show (if a = c then ltL x z else decide (a < c)) = false
    by_cases e : a = b
    · rw [if_pos e] at h1'
      by_cases f : b = c
      · rw [if_pos f] at h2'; rw [if_pos (e.trans f)]; exact ltL_neg x y z h1' h2'
      · rw [if_neg f] at h2'
        have := of_decide_eq_false h2'
        rw [if_neg (by omega)]; exact decide_eq_false (by omega)
    · rw [if_neg e] at h1'
      have q1 := of_decide_eq_false h1'
      by_cases f : b = c
      · rw [if_neg (by omega)]; exact decide_eq_false (by omega)
      · rw [if_neg f] at h2'
        have := of_decide_eq_false h2'
        rw [if_neg (by omega)]; exact decide_eq_false (by omega)
theorem ltL_swo {α : Type} (k : α → List Int) : SrtO.Swo fun x y => ltL (k x) (k y) := ⟨fun x y h => ltL_asym _ _ h, fun x y z h1 h2 => ltL_neg _ _ _ h2 h1⟩
/-- sorted(xs), xs a list of lists of ints (k says which): a new list, sorted -/
def rSortLL (K : PySem.W.Frag) : List V → Hp → VK → Prop := fun vs H Q => ∃ (a : Addr) (as : List Addr) (k : Addr → List Int), vs = [V.ref a] ∧ SqL K H a (as.map V.ref) ∧ (∀ x ∈ as, H x = some (.lst ((k x).map V.int))) ∧
  ∀ (bs : List Addr) (p : Addr), bs.Perm as → bs.Pairwise (fun x y => ltL (k y) (k x) = false) → H p = none → Q (.ref p) (upd H p (.lst (bs.map V.ref)))
theorem nums_of : ∀ {ns : List Int} {its : List Value}, Vals (ns.map V.int) its → Nums its.toArray ns
  | [], _, .nil => ⟨rfl, fun j n h => by simp at h⟩
  | n :: ns, v :: its, .cons r rr => by
    obtain ⟨t, rfl⟩ := r
    have ih := nums_of rr
    have h1 : its.length = ns.length := by simpa using ih.1
    refine ⟨by simp [h1], fun j m h => ?_⟩
    cases j with
    | zero => cases h; exact ⟨t, by simp⟩
    | succ j => obtain ⟨u, e⟩ := ih.2 j m (by simpa using h); exact ⟨u, by simpa using e⟩
def adr : V → Addr
  | .ref a => a
  | _ => 0
theorem cr_sortLL {X : Cx} (hu : X.A.units + 8 < cLine) : CallR X (.builtin "sorted") (rSortLL X.K) := by
  intro pins s σ
        H vs us Q I r h
  obtain ⟨a, as, k, rfl, hs, hx, q⟩ := h
  obtain ⟨its, rv,
        hl, hz⟩ := I.list hs
  obtain ⟨u, rfl,
        ru⟩ := vals1 r
  obtain rfl : u =
        Value.ref a := ru
  obtain ⟨e1,
        e2⟩ := refs_back rv fun x m => by
    obtain ⟨t, _, e⟩ := List.mem_map.mp m
    exact ⟨t, e.symm⟩
  have num : ∀ v ∈ its, IsNums s.heap v (k (adr (backV v))) := fun v hv => by
    obtain ⟨t, rfl⟩ := e2 v hv
    have hm : V.ref t ∈ as.map V.ref := by rw [e1]; exact List.mem_map.mpr ⟨_, hv, rfl⟩
    obtain ⟨t', ht', e⟩ := List.mem_map.mp hm
    cases e
    obtain ⟨_, its2, n, r2, ho⟩ := (show ObjOk X.prog X.w H s.heap t (.lst ((k t).map V.int)) from I.hok _ _ (hx t ht'))
    exact ⟨t, _, n, rfl, ho, nums_of r2⟩
  refine SrtO.sorted_ord (ltv := fun v u => ltL (k (adr (backV v))) (k (adr (backV u)))) (ltL_swo _) hl.isList (by rw [← rv.length]; exact hz) (fun h2 h₁ b hb kk => ?_) fun out h1 h2 => ?_
  · intro h' keep
    have num' : ∀ v ∈ its, IsNums h' v (k (adr (backV v))) := fun v hv => by
      obtain ⟨t, jt, n, e, ho, nn⟩ := num v hv
      exact ⟨t, jt, n, e, keep _ _ (kk _ _ ho).1 (kk _ _ ho).2, nn⟩
    refine ⟨oneType', fun Q E hq => kind_lists (s := { s with heap := h' }) (fun v hv => ⟨_, num' v hv⟩) h2 hq, fun p q hp hq => ?_⟩
    show wpAny _ _ (keyLt' oneType' p.1 q.1) _ _ _
    rw [keyLt'_oneType]
    refine oneLt_lists (s := { s with heap := h' }) ?_ (num' _ hp) (num' _ hq) ⟨rfl, rfl⟩
    show X.A.in1.in1.units < cLine
    have : X.A.in1.in1.units ≤ X.A.units + 8 := by show X.A.units + _ + _ ≤ _; omega
    omega
  · have h3 : ∀ u ∈ out, ∃ a, u = Value.ref a := fun u hu => e2 u (h2.perm.mem_iff.mp
        hu)
    have eb : out.map backV = (out.map fun v => adr (backV v)).map V.ref := by
      rw [List.map_map]
      refine List.map_congr_left fun v hv => ?_
      obtain ⟨t, rfl⟩ := h3 v hv
      rfl
    have ea : as = its.map fun v => adr (backV v) := by
      have z := congrArg (List.map adr) e1
      rw [List.map_map, List.map_map] at z
      have z1 : as.map (adr ∘ V.ref) = as := by
        exact (List.map_congr_left (g := id) (fun _ _ => rfl)).trans (List.map_id _)
      rw [z1] at z
      exact z
    have hq := q (out.map fun v => adr (backV v)) (s.heap.objs.size + 1) (by rw [ea]; exact h2.perm.map _) (List.pairwise_map.mpr h1) (I.hok.fresh (Nat.le_succ _))
    obtain ⟨n, hn⟩ := sortedAll_at s.heap its out.toArray
    have ok : ObjOk X.prog X.w (upd H (s.heap.objs.size + 1) (.lst ((out.map fun v => adr (backV v)).map V.ref))) (sortedAll s.heap its out.toArray) (s.heap.objs.size + 1) (.lst ((out.map fun v => adr (backV v)).map V.ref)) := by
      refine ⟨?_, out, n, ?_, hn⟩
      · rw [← eb, List.length_map, h2.perm.length_eq, ← rv.length]
        exact hz
      · rw [← eb]; exact vals_back h3
    exact ⟨.ref (s.heap.objs.size + 1), _, I.laid (t' := s.toks) (fun b o e => sortedAll_old e) (Nat.le_succ _) ok, rfl, hq⟩
    /-
    · rw [← eb, List.length_map, h2.perm.length_eq, ← rv.length]
      exact hz
    · rw [← eb]; exact vals_back h3 -/
end Rs

set_option Elab.async false
set_option linter.all false
set_option maxRecDepth 100000
set_option maxHeartbeats 2000000
/-! comprehensions by what they make; data at two depths -/
namespace Rd
open PySem PySem.Spec PyProof.Rows L2
/-- what is walked stands still and gives these values -/
structure Src (J : It) (xs : List V) (H : Hp) : Prop where
  go : ∀ (H1 : Hp) (i : Nat), Same H H1 → i < xs.length → J.go i H1
  yld : ∀ (H1 : Hp) (i : Nat) (x : V) (H' : Hp), Same H H1 → J.yld i H1 x H' → H' = H1 ∧ (i < xs.length → xs[i]? = some x)
  stop : ∀ (H1 : Hp), Same H H1 → J.stop xs.length H1
theorem src_list {K : PySem.W.Frag} {a : Addr} {xs : List V} {H : Hp} (h : SqL K H a xs) : Src (Itl K a) xs H where
  go := fun H1 i e hi => ⟨xs, xs[i], Same.seq e h, List.getElem?_eq_getElem hi⟩
  yld := fun H1 i x H' e y => ⟨y.1, fun _ => y.2 xs (Same.seq e h)⟩
  stop := fun H1 e => ⟨xs, Same.seq e h, Nat.le_refl _⟩
theorem src_tup {K : PySem.W.Frag} {a : Addr} {xs : List V} {H : Hp} (h : SqT K H a xs) : Src (Itt K a) xs H where
  go := fun H1 i e hi => ⟨xs, xs[i], same_t e h, List.getElem?_eq_getElem hi⟩
  yld := fun H1 i x H' e y => ⟨y.1, fun _ => y.2 xs (same_t e h)⟩
  stop := fun H1 e => ⟨xs, same_t e h, Nat.le_refl _⟩
def rgL (lo : Int) (n : Nat) : List V := (List.range n).map fun i => V.int (lo + (i : Nat))
theorem rgL_len (lo : Int) (n : Nat) : (rgL lo n).length = n := by unfold rgL; rw [List.length_map, List.length_range]
theorem rgL_get {lo : Int} {n i : Nat} (h : i < n) : (rgL lo n)[i]? = some (.int (lo + (i : Nat))) := by
  unfold rgL
  rw [List.getElem?_map, List.getElem?_range h]; rfl
theorem src_rng (lo : Int) (n : Nat) (H : Hp) : Src (Itr lo n) (rgL lo n) H where
  go := fun H1 i e hi => by rw [rgL_len] at hi; exact hi
  yld := fun H1 i x H' e y => ⟨y.1, fun hi => by rw [rgL_len] at hi; rw [rgL_get hi, y.2]⟩
  stop := fun H1 e => by rw [rgL_len]; exact Nat.le_refl _
section
variable {J : It} {xs : List V} {j : Nat} {te : TE} {vs : List Nat} {σ : L2.St} {H : Hp} {Q : VK} {D : Addr} {Qd : Addr → Hp → Prop}
theorem tyes {P : Bool → Hp → Prop} (h : P true H) : tYes σ H P := h
theorem lc {wi : TI} {g : TG} {tt : TT} (h : wi σ H fun J H1 => ∀ D, H1 D = none → ∃ W : Nat → Nat → Hp → Prop, (∃ m, W 0 m (upd H1 D (.lst []))) ∧ ∀ i m H, W i m H →
  (J.stop i H ∧ Q (.ref D) H) ∨ (J.go i H ∧ ∃ Nx : Hp → Prop, (∀ H', Nx H' → ∃ m', m' < m ∧ W (i + 1) m' H')
        ∧ ∀ x H', J.yld i H x H' → g x (wipe σ vs) H' fun σ2 H2 => wipe σ2 vs = wipe σ vs ∧ tt σ2 H2 fun b H3 =>
    if b = true then te σ2 H3 fun y H4 => ∃ acc, H4 D = some (.lst acc) ∧ acc.length < sizeLine ∧ Nx (upd H4 D (.lst (acc ++ [y]))) else Nx H3)) : tLc wi g tt te vs σ H Q := h
/-- a comprehension without a test: what holds of the list so far -/
theorem lcOf (S : Src J xs H) (hz : xs.length ≤ 100000) (hw : ∀ x : V, wipe ((wipe σ vs).set j (some x)) vs = wipe σ vs) (hD : H D = none) (P : List V → Hp → Prop)
    (h0 : P [] (upd H D (.lst [])))
    (hs : ∀ (x : V) (acc : List V) (H1 : Hp), xs[acc.length]? = some x → Same H H1 → H1 D = some (.lst acc) → P acc H1 →
      te ((wipe σ vs).set j (some x)) H1 fun y H2 => Same H1 H2 ∧ P (acc ++ [y]) (upd H2 D (.lst (acc ++ [y]))))
    (hq : ∀ (acc : List V) (H1 : Hp), acc.length = xs.length → Same H H1 → H1 D = some (.lst acc) → P acc H1 → Qd D H1)
    (mono : ∀ (σ : L2.St) (H : Hp) (Q Q' : VK), (∀ y H1, Q y H1 → Q' y H1) → te σ H Q → te σ H Q') :
    ∃ W : Nat → Nat → Hp → Prop, (∃ m, W 0 m (upd H D (.lst []))) ∧ ∀ i m H, W i m H →
      (J.stop i H ∧ Qd D H) ∨ (J.go i H ∧ ∃ Nx : Hp → Prop, (∀ H', Nx H' → ∃ m', m' < m ∧ W (i + 1) m' H') ∧ ∀ x H', J.yld i H x H' → gName j x (wipe σ vs) H' fun σ2 H2 => wipe σ2 vs = wipe σ vs ∧ tYes σ2 H2 fun b H3 =>
        if b = true then te σ2 H3 fun y H4 => ∃ acc, H4 D = some (.lst
              acc) ∧ acc.length < sizeLine ∧ Nx (upd H4 D (.lst (acc ++ [y]))) else Nx H3) := by
  refine ⟨fun i m H1 => m = xs.length - i ∧ i ≤ xs.length ∧ ∃ acc, acc.length = i ∧ Same H H1 ∧ H1 D = some (.lst acc) ∧ P acc H1, ⟨xs.length, rfl, Nat.zero_le _, [], rfl, same_mk hD, upd_same, h0⟩, ?_⟩
  rintro i m H1 ⟨rfl, hi, acc, rfl, e, hacc, p⟩
  by_cases c : acc.length < xs.length
  · refine .inr ⟨S.go H1 _ e c, fun H' => ∃ m', m' < xs.length - acc.length ∧ (m' = xs.length - (acc.length + 1) ∧ acc.length + 1 ≤ xs.length ∧ ∃ acc', acc'.length = acc.length + 1 ∧ Same H H' ∧ H' D = some (.lst acc') ∧ P acc' H'), fun H' z => z, fun x H' y => ?_⟩
    obtain ⟨rfl, hx⟩ := S.yld H1 _ x H' e y
    refine ⟨hw x, ?_⟩
    refine tyes (iteT ?_)
    refine mono _ _ _ _ (fun y H2 z => ?_) (hs x acc H' (hx c) e hacc p)
    obtain ⟨s2, p2⟩ := z
    refine ⟨acc, s2 _ _ hacc, Nat.lt_of_lt_of_le (by omega : acc.length < 100000) (by decide), xs.length - (acc.length + 1), by omega, rfl, by omega, acc ++ [y], by simp, ?_, upd_same, p2⟩
    exact same_mut (Same.trans e s2) hD
  · have e1 : acc.length = xs.length := by omega
    refine .inl ⟨?_, hq acc H1 e1 e hacc p⟩
    rw [e1]; exact S.stop H1 e
/-- each element is reckoned to a value that needs no heap -/
theorem lcMap (f : Nat → V) (S : Src J xs H) (hz : xs.length ≤ 100000) (hw : ∀ x : V, wipe ((wipe σ vs).set j (some x)) vs = wipe σ vs)
    (hs : ∀ (n : Nat) (x : V) (H1 : Hp) (Q1 : VK), xs[n]? = some x → Same H H1 → (∀ H2, Same H1 H2 → Q1 (f n) H2) → te ((wipe σ vs).set j (some x)) H1 Q1)
    (hq : ∀ (p : Addr) (H1 : Hp), H p = none → Same H H1 → H1 p = some (.lst ((List.range xs.length).map f)) → Qd p H1)
    (D : Addr) (hD : H D = none) :
    ∃ W : Nat → Nat → Hp → Prop, (∃ m, W 0 m (upd H D (.lst []))) ∧ ∀ i m H, W i m H →
      (J.stop i H ∧ Qd D H) ∨ (J.go i H ∧ ∃ Nx : Hp → Prop, (∀ H', Nx H' → ∃ m', m' < m ∧ W (i + 1) m' H') ∧ ∀ x H', J.yld i H x H' → gName j x (wipe σ vs) H' fun σ2 H2 => wipe σ2 vs = wipe σ vs ∧ tYes σ2 H2 fun b H3 =>
        if b = true then te σ2 H3 fun y H4 => ∃ acc, H4 D = some (.lst
              acc) ∧ acc.length < sizeLine ∧ Nx (upd H4 D (.lst (acc ++ [y]))) else Nx H3) := by
  refine ⟨fun i m H1 => m = xs.length - i ∧ i ≤ xs.length ∧ Same H H1 ∧ H1 D = some (.lst ((List.range i).map f)), ⟨xs.length, rfl, Nat.zero_le _, same_mk hD, upd_same⟩, ?_⟩
  rintro i m H1 ⟨rfl, hi, e, hacc⟩
  by_cases c : i < xs.length
  · refine .inr ⟨S.go H1 _ e c, fun H' => Same H H' ∧ H' D = some (.lst ((List.range (i + 1)).map f)), fun H' z => ⟨xs.length - (i + 1), by omega, rfl, c, z⟩, fun x H' y => ?_⟩
    obtain ⟨rfl, hx⟩ := S.yld H1 _ x H' e y
    refine ⟨hw x, ?_⟩
    refine tyes (iteT ?_)
    refine hs i x H' _ (hx c) e fun H2 s2 => ?_
    refine ⟨_, s2 _ _ hacc, ?_, same_mut (Same.trans e s2) hD, ?_⟩
    · rw [List.length_map,
          List.length_range]
      exact Nat.lt_of_lt_of_le (by omega : i < 100000) (by decide)
    · rw [upd_same, List.range_succ, List.map_append]; rfl
  · have e1 : i = xs.length := by omega
    subst e1
    exact .inl ⟨S.stop H1 e, hq D H1 hD e hacc⟩
/-- each element is a new object -/
theorem lcNew (obj : Nat → HO → Prop) (S : Src J xs H) (hz : xs.length ≤ 100000) (hw : ∀ x : V, wipe ((wipe σ vs).set j (some x)) vs = wipe σ vs)
    (hs : ∀ (n : Nat) (x : V) (H1 : Hp) (Q1 : VK), xs[n]? = some x → Same H H1 → (∀ (p : Addr) (H2 : Hp) (o : HO), H1 p = none → Same H1 H2 → H2 p = some o → obj n o → Q1 (.ref p) H2) → te ((wipe σ vs).set j (some x)) H1 Q1)
    (hq : ∀ (p : Addr) (as : List Addr) (H1 : Hp), H p = none → Same H H1 → H1 p = some (.lst (as.map V.ref)) → as.length = xs.length → (∀ (n : Nat) (a : Addr), as[n]? = some a → (∃ o, H1 a = some o ∧ obj n o) ∧ H a = none ∧ a ≠ p) → as.Nodup → Qd p H1)
    (D : Addr) (hD : H D = none) :
    ∃ W : Nat → Nat → Hp → Prop, (∃ m, W 0 m (upd H D (.lst []))) ∧ ∀ i m H, W i m H →
      (J.stop i H ∧ Qd D H) ∨ (J.go i H ∧ ∃ Nx : Hp → Prop, (∀ H', Nx H' → ∃ m', m' < m ∧ W (i + 1) m' H') ∧ ∀ x H', J.yld i H x H' → gName j x (wipe σ vs) H' fun σ2 H2 => wipe σ2 vs = wipe σ vs ∧ tYes σ2 H2 fun b H3 =>
        if b = true then te σ2 H3 fun y H4 => ∃ acc, H4 D = some (.lst
              acc) ∧ acc.length < sizeLine ∧ Nx (upd H4 D (.lst (acc ++ [y]))) else Nx H3) := by
  refine ⟨fun i m H1 => m = xs.length - i ∧ i ≤ xs.length ∧ ∃ as : List Addr, as.length = i ∧ Same H H1 ∧ H1 D = some (.lst (as.map V.ref)) ∧ (∀ (n : Nat) (a : Addr), as[n]? = some a → (∃ o, H1 a = some o ∧ obj n o) ∧ H a = none ∧ a ≠ D) ∧ as.Nodup,
    ⟨xs.length, rfl, Nat.zero_le _, [], rfl, same_mk hD, upd_same, fun n a h => by simp at h, List.nodup_nil⟩, ?_⟩
  rintro i m H1 ⟨rfl, hi, as, rfl, e, hacc, ho, nd⟩
  by_cases c : as.length < xs.length
  · refine .inr ⟨S.go H1 _ e c, fun H' => ∃ as' : List Addr, as'.length = as.length + 1 ∧ Same H H' ∧ H' D = some (.lst (as'.map V.ref)) ∧ (∀ (n : Nat) (a : Addr), as'[n]? = some a → (∃ o, H' a = some o ∧ obj n o) ∧ H a = none ∧ a ≠ D) ∧ as'.Nodup,
      fun H' z => ⟨xs.length - (as.length + 1), by omega, rfl, c, z⟩, fun x H' y => ?_⟩
    obtain ⟨rfl, hx⟩ := S.yld H1 _ x H' e y
    refine ⟨hw x, ?_⟩
    refine tyes (iteT ?_)
    refine hs as.length x H' _ (hx c) e fun p H2 ob hp s2 h2 hob => ?_
    have npD : p ≠ D := fun z => by rw [z, hacc] at hp; cases hp
    have pn : p ∉ as := fun hm => by
      obtain ⟨n, hn⟩ := List.getElem?_of_mem hm
      obtain ⟨_, w, _⟩ := (ho n p hn).1
      rw [w] at hp; cases hp
    refine ⟨_, s2 _ _ hacc, ?_, as ++ [p], by simp, same_mut (Same.trans e s2) hD, by rw [upd_same, List.map_append]; rfl, fun n a hn => ?_, ?_⟩
    · rw [List.length_map]
      exact Nat.lt_of_lt_of_le (by omega : as.length < 100000) (by decide)
    · by_cases q : n < as.length
      · rw [List.getElem?_append_left q] at hn
        obtain ⟨⟨o1, a1, b1⟩, a2, a3⟩ := ho n a hn
        exact ⟨⟨o1, by rw [upd_ne a3]; exact s2 _ _ a1, b1⟩, a2, a3⟩
      · rw [List.getElem?_append_right (by omega)] at hn
        have q0 : n - as.length = 0 := by
          apply Classical.byContradiction
          intro z
          rw [List.getElem?_eq_none (by simp; omega)] at hn
          cases hn
        rw [q0] at hn
        cases hn
        have q1 : n = as.length := by omega
        rw [q1]
        exact ⟨⟨ob, by rw [upd_ne npD]; exact h2, hob⟩, Same.free e hp, npD⟩
    · refine List.nodup_append.mpr ⟨nd, by simp, fun a ha b hb => ?_⟩
      rw [List.mem_singleton.mp hb]
      intro z
      rw [z] at ha
      exact pn ha
  · have e1 : as.length = xs.length := by omega
    refine .inl ⟨?_, hq D as H1 hD e hacc e1 ho nd⟩
    rw [e1]; exact S.stop H1 e
end
theorem enT {K : PySem.W.Frag} {ta : TA} {σ : L2.St} {H : Hp} {R : It → Hp → Prop} (h : ta σ H fun vs H1 => ∃ a xs, vs = [.ref a] ∧ SqT K H1 a xs ∧ R (Rx.IteT K a) H1) : Rx.iEnumT K ta σ H R := h
theorem enL {K : PySem.W.Frag} {ta : TA} {σ : L2.St} {H : Hp} {R : It → Hp → Prop} (h : ta σ H fun vs H1 => ∃ a xs, vs = [.ref a] ∧ SqL K H1 a xs ∧ R (Ite K a) H1) : iEnum K ta σ H R := h
/-! ### data: lists of ints, lists of lists of ints, tuples of them -/
def iL (ns : List Int) : PyData := .list (ns.map .int)
def iT (ns : List Int) : PyData := .tuple (ns.map .int)
theorem dpInts {K : PySem.W.Frag} {H : Hp} : ∀ ns : List Int, DpAll K H (ns.map V.int) (ns.map .int)
  | [] => .nil
  | n :: ns => .cons (.int n) (dpInts ns)
theorem dpL {K : PySem.W.Frag} {H : Hp} {a : Addr} {ns : List Int} (h : SqL K H a (ns.map V.int)) : Dp K H (.ref a) (iL ns) := .lst h (dpInts ns)
theorem dpT {K : PySem.W.Frag} {H : Hp} {a : Addr} {ns : List Int} (h : SqT K H a (ns.map V.int)) : Dp K H (.ref a) (iT ns) := .tup h (dpInts ns)
theorem layInts : ∀ ns : List Int, PyData.canLayAll0 (ns.map PyData.int) = true
  | [] => by simp
        [PyData.canLayAll0]
  | n :: ns => by simp [PyData.canLayAll0, PyData.canLay0, layInts ns]
theorem depInts : ∀ ns : List Int, PyData.depthAll (ns.map PyData.int) ≤ 1
  | [] => by simp
        [PyData.depthAll]
  | n :: ns => by
    have := depInts ns
    simp only [List.map_cons,
          PyData.depthAll, PyData.depth]
    omega
theorem iL_shaped (ns : List Int) : SeqAt.shaped (iL ns) = true := by
  have h := depInts ns
  show (PyData.canLay0 (iL ns) && decide (PyData.depth (iL ns) ≤ 64)) = true
  rw [Bool.and_eq_true]
  refine ⟨by simp only [iL, PyData.canLay0]; exact layInts ns, decide_eq_true ?_⟩
  simp only [iL, PyData.depth]; omega
theorem iT_shaped (ns : List Int) : SeqAt.shaped (iT ns) = true := by
  have h := depInts ns
  show (PyData.canLay0 (iT ns) && decide (PyData.depth (iT ns) ≤ 64)) = true
  rw [Bool.and_eq_true]
  refine ⟨by simp only [iT, PyData.canLay0]; exact layInts ns, decide_eq_true ?_⟩
  simp only [iT, PyData.depth]; omega
theorem eqvInts : ∀ ns ms : List Int, PyData.eqvAll (ns.map .int) (ms.map .int) = decide (ns = ms)
  | [], [] => by simp
        [PyData.eqvAll]
  | [], _ :: _ =>
        by simp [PyData.eqvAll]
  | _ :: _, [] =>
        by simp [PyData.eqvAll]
  | n :: ns, m :: ms => by
    have ih := eqvInts ns ms
    simp only [List.map_cons, PyData.eqvAll, PyData.eqv, ih]
    by_cases h : n = m
    · subst h; simp
    · simp [h]
theorem iL_eqv (ns ms : List Int) : PyData.eqv (iL ns) (iL ms) = decide (ns = ms) := by simp only [iL, PyData.eqv]; exact eqvInts ns ms
theorem iT_eqv (ns ms : List Int) : PyData.eqv (iT ns) (iT ms) = decide (ns = ms) := by simp only [iT, PyData.eqv]; exact eqvInts ns ms
def lL (t : List (List Int)) : PyData := .list (t.map iL)
def tT (t : List (List Int)) : PyData := .tuple (t.map iT)
theorem layLL : ∀ t : List (List Int), PyData.canLayAll0 (t.map iL) = true
  | [] => by simp
        [PyData.canLayAll0]
  | r :: t => by
    have h : PyData.canLay0 (iL r) = true := by simp only [iL, PyData.canLay0]; exact layInts r
    simp [PyData.canLayAll0, h, layLL t]
theorem layTT : ∀ t : List (List Int), PyData.canLayAll0 (t.map iT) = true
  | [] => by simp
        [PyData.canLayAll0]
  | r :: t => by
    have h : PyData.canLay0 (iT r) = true := by simp only [iT, PyData.canLay0]; exact layInts r
    simp [PyData.canLayAll0, h, layTT t]
theorem depLL : ∀ t : List (List Int), PyData.depthAll (t.map iL) ≤ 3
  | [] => by simp
        [PyData.depthAll]
  | r :: t => by
    have h1 := depLL t
    have h2 := depInts r
    have h3 : (iL r).depth = 1 + PyData.depthAll (r.map PyData.int) ∨ (iL r).depth = PyData.depthAll (r.map PyData.int) + 1 := by
      simp only [iL, PyData.depth]; omega
    simp only [List.map_cons,
          PyData.depthAll]
    omega
theorem depTT : ∀ t : List (List Int), PyData.depthAll (t.map iT) ≤ 3
  | [] => by simp
        [PyData.depthAll]
  | r :: t => by
    have h1 := depTT t
    have h2 := depInts r
    have h3 : (iT r).depth = 1 + PyData.depthAll (r.map PyData.int) ∨ (iT r).depth = PyData.depthAll (r.map PyData.int) + 1 := by
      simp only [iT, PyData.depth]; omega
    simp only [List.map_cons,
          PyData.depthAll]
    omega
theorem lL_shaped (t : List (List Int)) : SeqAt.shaped (lL t) = true := by
  have h := depLL t
  show (PyData.canLay0 (lL t) && decide (PyData.depth (lL t) ≤ 64)) = true
  rw [Bool.and_eq_true]
  refine ⟨by simp only [lL, PyData.canLay0]; exact layLL t, decide_eq_true ?_⟩
  simp only [lL, PyData.depth]; omega
theorem tT_shaped (t : List (List Int)) : SeqAt.shaped (tT t) = true := by
  have h := depTT t
  show (PyData.canLay0 (tT t) && decide (PyData.depth (tT t) ≤ 64)) = true
  rw [Bool.and_eq_true]
  refine ⟨by simp only [tT, PyData.canLay0]; exact layTT t, decide_eq_true ?_⟩
  simp only [tT, PyData.depth]; omega
theorem eqvLL : ∀ t u : List (List Int), PyData.eqvAll (t.map iL) (u.map iL) = decide (t = u)
  | [], [] => by simp
        [PyData.eqvAll]
  | [], _ :: _ =>
        by simp [PyData.eqvAll]
  | _ :: _, [] =>
        by simp [PyData.eqvAll]
  | r :: t, q :: u => by
    have ih := eqvLL t u
    simp only [List.map_cons, PyData.eqvAll, iL_eqv, ih]
    by_cases h : r = q
    · subst h; simp
    · simp [h]
theorem eqvTT : ∀ t u : List (List Int), PyData.eqvAll (t.map iT) (u.map iT) = decide (t = u)
  | [], [] => by simp
        [PyData.eqvAll]
  | [], _ :: _ =>
        by simp [PyData.eqvAll]
  | _ :: _, [] =>
        by simp [PyData.eqvAll]
  | r :: t, q :: u => by
    have ih := eqvTT t u
    simp only [List.map_cons, PyData.eqvAll, iT_eqv, ih]
    by_cases h : r = q
    · subst h; simp
    · simp [h]
theorem lL_eqv (t u : List (List Int)) : PyData.eqv (lL t) (lL u) = decide (t = u) := by simp only [lL, PyData.eqv]; exact eqvLL t u
theorem tT_eqv (t u : List (List Int)) : PyData.eqv (tT t) (tT u) = decide (t = u) := by simp only [tT, PyData.eqv]; exact eqvTT t u
section
variable {K : PySem.W.Frag} {H : Hp} {Q : VK} {a b : Addr} {ns ms : List Int}
theorem eqLL (h1 : SqL K H a (ns.map V.int)) (h2 : SqL K H b (ms.map V.int)) (h : Q (.bl (decide (ns = ms))) H) : rEqD K (.ref a) (.ref b) H Q := ⟨_, _, dpL h1, dpL h2, iL_shaped _, iL_shaped _, by rw [iL_eqv]; exact h⟩
theorem neLL (h1 : SqL K H a (ns.map V.int)) (h2 : SqL K H b (ms.map V.int)) (h : Q (.bl (!decide (ns = ms))) H) : rNeD K (.ref a) (.ref b) H Q := ⟨_, _, dpL h1, dpL h2, iL_shaped _, iL_shaped _, by rw [iL_eqv]; exact h⟩
theorem eqTT (h1 : SqT K H a (ns.map V.int)) (h2 : SqT K H b (ms.map V.int)) (h : Q (.bl (decide (ns = ms))) H) : rEqD K (.ref a) (.ref b) H Q := ⟨_, _, dpT h1, dpT h2, iT_shaped _, iT_shaped _, by rw [iT_eqv]; exact h⟩
theorem neTT (h1 : SqT K H a (ns.map V.int)) (h2 : SqT K H b (ms.map V.int)) (h : Q (.bl (!decide (ns = ms))) H) : rNeD K (.ref a) (.ref b) H Q := ⟨_, _, dpT h1, dpT h2, iT_shaped _, iT_shaped _, by rw [iT_eqv]; exact h⟩
end
end Rd

set_option Elab.async false
set_option linter.all false
set_option maxRecDepth 100000
set_option maxHeartbeats 2000000
/-! defs, methods, classes as they are called; what they raise -/
namespace Rd
open PySem PySem.Spec PyProof.Rows L2
theorem fnUp {P : Program} {w : World} {K : PySem.W.Frag} {mg : Str → Option Value} {base : Heap} {CX : CXT} {k : Nat} {f : Addr} {fd : FuncData} {ps : List Str} {sp : Sp} (F : FnOk P w K mg base CX0 k f fd ps sp) : FnOk P w K mg base CX k f fd ps sp :=
  ⟨F.len, fun A outer s H args us vs Q E hr he hb hv hs => codeAny_mono (F.run A outer s H args us vs Q E hr he hb hv hs) fun r s' h => by
    cases r with
    | ok fl => cases fl <;> exact h
    | error e => exact False.elim h⟩
/-- a method of
      the class at C -/
structure MOk (P : Program) (w : World) (K : PySem.W.Frag) (mg : Str → Option Value) (base : Heap) (CX : CXT) (C : Addr) (m : Str) (k : Nat) (ps : List Str) (sp : Sp) : Prop where
  cl : Cls K C
  ok : ∃ f fd, Meth K C m f ∧ FnOk P w K mg base CX k f fd ps sp ∧ Binds K fd ps []
/-- a class that is made by its __init__ -/
structure KOk (P : Program) (w : World) (K : PySem.W.Frag) (mg : Str → Option Value) (base : Heap) (CX : CXT) (x : Str) (C : Addr) (k : Nat) (ps : List Str) (sp : Sp) : Prop where
  ok : ∃ f fd, Mk K C f ∧ FnOk P w K mg base CX k f fd ps sp ∧ mg x = some (.ref C) ∧ Binds K fd ps []
section
variable {X : Cx} {x m : Str} {p pos apos : Pos} {e o : Expr} {es : List Expr} {ts : TA} {ta : TE} {k : Nat} {ps : List Str} {sp : Sp} {CX : CXT} {E : XK} {C : Addr}
/-- what a def lets out, its callee's too -/
theorem passX {E₁ : Value → Shared → Prop} (hs : X.stack = X.env :: X.outer) (hf : X.env.frame = some X.env.locals) (hex : X.ex = [])
    (hx : X.xe = fun e s' => wpAny (model X.prog X.w) X.A (leaving X.env e) (fun _ s'' => L2.CX X.prog X.w X.outer X.H_0 X.s_0 E e s'') E₁ s') : Passes (L2.CX X.prog X.w) X E :=
  passes_call (takes_of hs hf hex hx) fun _ _ _ _ h => h
theorem passN {X : Cx} {CX : CXT} (h : Passes CX X E0 := by first | exact pass0 | exact passL) : Passes CX X E0 := h
theorem callX (D : DOk X.prog X.w X.K X.mg X.base CX x k ps sp) (hr : Room k X.A) (hx : Passes CX X E) (ha : PA X (e :: es) ts) (hg : Gl X x := by rfl) (hdb : (x == ("__debug__" : Str)) = false := by decide)
    (he : starEach (e :: es) X.env = (false, eval e X.env) :: starEach es X.env :=
          by rfl) (hpl : (backTo pos (starEach es X.env)).any (·.1) = false := by rfl) :
    PE X (.Call (.Name x p) (e :: es) [] pos) (tCall sp [] E ts) := by
  obtain ⟨f, fd, F, hm, hk, hb⟩ := D.ok
  exact pe_call F hr hg hm hk hb .nil hx ha hdb he hpl
theorem callX0 (D : DOk X.prog X.w X.K X.mg X.base CX x k ps sp) (hr : Room k X.A) (hx : Passes CX X E) (hg : Gl X x := by rfl) (hdb : (x == ("__debug__" : Str)) = false := by decide) :
    PE X (.Call (.Name x p) [] [] pos) (tCall sp [] E tNil) := by
  obtain ⟨f, fd, F, hm, hk, hb⟩ := D.ok
  exact pe_call0 F hr hg hm hk hb .nil hx hdb
theorem methX {pl : Sem Bool} (M : MOk X.prog X.w X.K X.mg X.base CX C m k ps sp) (hr : Room k X.A) (hx : Passes CX X E) (he : PE X o ta) (ha : PA X (e :: es) ts)
    (hst : starEach (e :: es) X.env = (false, eval e X.env) :: starEach es X.env :=
          by rfl) (hpl : (backTo pos (starEach es X.env)).any (·.1) = false := by rfl)
    (ht : eval (.Call (.Attribute o m
          apos) (e :: es) [] pos) X.env = (do
      let ov ← eval o X.env
      standAt apos.atName
      let (f, first) ← holding [ov] (getMethod
            ov m pl)
      callWith pos f first (backTo pos (starEach (e :: es)
            X.env)) (backToKw pos (keywordEach [] X.env))) := by rfl) :
    PE X (.Call (.Attribute o m apos) (e :: es) [] pos) (tMeth C m sp [] E ta ts) := by
  obtain ⟨f, fd, hm, F, hb⟩ := M.ok
  exact pe_meth he M.cl hm F hr hb .nil hx ha hst hpl ht
theorem methX0 {pl : Sem Bool} (M : MOk X.prog X.w X.K X.mg X.base CX C m k ps sp) (hr : Room k X.A) (hx : Passes CX X E) (he : PE X o ta)
    (ht : eval (.Call (.Attribute o
          m apos) [] [] pos) X.env = (do
      let ov ← eval o X.env
      standAt apos.atName
      let (f, first) ← holding [ov] (getMethod
            ov m pl)
      callWith pos f first [] []) := by rfl) : PE X (.Call (.Attribute o m apos) [] [] pos) (tMeth C m sp [] E ta tNil) := by
  obtain ⟨f, fd, hm, F, hb⟩ := M.ok
  exact pe_meth0 he M.cl hm F hr hb .nil hx ht
theorem makeX (D : KOk X.prog X.w X.K X.mg X.base CX x C k ps sp) (hr : Room (k + 1) X.A) (hx : Passes CX X E) (ha : PA X (e :: es) ts) (hg : Gl X x := by rfl) (hdb : (x == ("__debug__" : Str)) = false := by decide)
    (he : starEach (e :: es) X.env = (false, eval e X.env) :: starEach es X.env :=
          by rfl) (hpl : (backTo pos (starEach es X.env)).any (·.1) = false := by rfl) :
    PE X (.Call (.Name x p) (e :: es) [] pos) (tMake C sp [] E ts) := by
  obtain ⟨f, fd, M, F, hm, hb⟩ := D.ok
  exact pe_make M F hr hg hm hb .nil hx ha hdb he hpl
end
/-- what the head tells of an error's class -/
structure ExF (K : PySem.W.Frag) (mg : Str → Option Value) (x : Str) (C : Addr) : Prop where
  gP : mg x = some (.ref C)
  xP : PySem.W.excIn K C [.type "ValueError", .type "Exception", .type "BaseException", .type "object"] "ValueError.__new__" = true
  kP : PySem.W.keepIn K (.ref C) = true
  bP : PySem.W.subIn K (.ref C) (.type "BaseException") = some true
  tP : PySem.W.typeIn K (.ref C) = some (.type "type")
section
variable {D : Ends} {σ : L2.St} {H : Hp} {ta tv : TE} {Q : VK} {K : PySem.W.Frag} {f : Str} {a C dx : Addr} {fs : List (Str × V)} {v : V}
theorem fld (h : ta σ H fun x H1 => ∃ a C dx fs v, x = .ref a ∧ H1 a = some (.ins C dx fs) ∧ Cls K C ∧ NoAttr K C f ∧ fs.lookup f = some v ∧ Q v H1) : tFld K ta f σ H Q := h
theorem fld' {P : V → Prop} (h1 : H a = some (.ins C dx fs)) (c : Cls K C) (n : NoAttr K C f) (hl : fs.lookup f = some v) (h : P v) : ∃ b C dx fs v, V.ref a = .ref b ∧ H b = some (.ins C dx fs) ∧ Cls K C ∧ NoAttr K C f ∧ fs.lookup f = some v ∧ P v :=
  ⟨a, C, dx, fs, v, rfl, h1, c, n, hl, h⟩
theorem sfld (h : tv σ H fun y H1 => ta σ H1 fun x H2 => ∃ a C dx fs, x = .ref a ∧ H2 a = some (.ins C dx fs) ∧ Cls K C ∧ NoAttr K C f ∧ fs.length < 1000 ∧ D.nx σ (upd H2 a (.ins C dx (putF f y fs)))) : sFld K ta tv f D σ H := h
theorem meth {m : Str} {sp : Sp} {E : XK} {ts : TA} (h : ta σ H fun x H1 => ∃ a dx fs, x = .ref a ∧ H1 a = some (.ins C dx fs) ∧ fs.lookup m = none ∧ ts σ H1 fun vs H2 => sp (x :: (vs ++ [])) H2 Q E) : tMeth C m sp [] E ta ts σ H Q := h
theorem make {sp : Sp} {E : XK} {ts : TA} (h : ts σ H fun vs H1 => ∀ x dx, H1 x = none → H1 dx = none → dx ≠ x → sp (.ref x :: (vs ++ [])) (upd (upd H1 dx (.own x)) x (.ins C dx [])) (fun v H2 => v = .non ∧ Q (.ref x) H2) E) : tMake C sp [] E ts σ H Q := h
end
end Rd
namespace Rd
open PySem PySem.Spec PyProof.Rows L2
/-- t.index(n), t a tuple of ints that has it -/
theorem mt_tup_indexI {X : Cx} : MtR X "tuple.index" (fun x xs H Q => ∃ p, ∃ ys : List Int, ∃ (z : Int) (j : Nat), x = .ref p ∧ xs = [.int z] ∧ SqT X.K H p (ys.map V.int) ∧ ys[j]? = some z ∧ (∀ m, m < j → ys[m]? ≠ some z) ∧ Q (.int (j : Nat)) H) := by
  intro pins s σ H x
        xs v us Q I rx rs h
  obtain ⟨p, ys, z, j, rfl,
        rfl, hq, hy, hno, q⟩ := h
  cases rx
  obtain ⟨u, rfl, t,
        rfl⟩ := vals1 rs
  obtain ⟨its, r, pl,
        hz⟩ := I.tuple hq
  obtain ⟨⟨cls, dd, dt,
        sl⟩, ho, hc, n, hd⟩ := pl
  simp only at hc hd
  subst hc
  subst hd
  have nn := Rs.nums_of r
  have hj : j < its.toArray.size := by rw [nn.1]; exact (List.getElem?_eq_some_iff.mp hy).1
  have fl : (ys.map V.int).all flatV = true := by rw [List.all_map]; exact List.all_eq_true.mpr fun _ _ => rfl
  have get : ∀ (m : Nat) (hm : m < its.toArray.size), ∃ y t', ys[m]? = some y ∧ its.toArray[m] = Value.int y t' := fun m hm => by
    have hm' : m < ys.length := by rw [← nn.1]; exact hm
    obtain ⟨t', e⟩ := nn.2 m ys[m] (List.getElem?_eq_getElem hm')
    refine ⟨ys[m], t',
          List.getElem?_eq_getElem hm', ?_⟩
    have := (Array.getElem?_eq_some_iff.mp e).2
    exact this
  refine call_meets PySem.F.slot_tuple_index ⟨_, ho, rfl⟩ PySem.F.entry_tuple_index (PySem.F.args_tuple_index_2 _ _) (TI.tuple_indexAt p its.toArray n dd sl (.int z t) (eqU (.int z)) j hj ?_ ?_)
    ⟨ho, fun w hw => mem_eqAt (x := .int z) ⟨t, rfl⟩ rfl r fl w (by simpa using hw), ⟨.int (j : Nat), H, I.tok _, ⟨_, rfl⟩, q⟩⟩
  · obtain ⟨y, t', h1, h2⟩ := get j hj
    rw [hy] at h1
    cases h1
    rw [h2]
    show (z == z) = true
    exact beq_self_eq_true z
  · intro m hm hmj
    obtain ⟨y, t', h1, h2⟩ := get m hm
    rw [h2]
    show (y == z) = false
    exact beq_eq_false_iff_ne.mpr fun e => hno m hmj (e
          ▸ h1)
theorem un64 {k : Nat} {A : Around} (hr : Room k A) : A.units + 64 < cLine := by have := hr.un; omega
theorem un8 {k : Nat} {A : Around} (hr : Room k A) : A.units + 8 < cLine := by have := hr.un; omega
theorem un65 {k : Nat} {A : Around} (hr : Room k A) : A.units + 65 < cLine := by have := hr.un; omega
theorem inV_int {n : Int} {ns : List Int} : inV (.int n) (ns.map V.int) = decide (n ∈ ns) := by
  unfold inV
  rw [List.any_map, Bool.eq_iff_iff,
        List.any_eq_true, decide_eq_true_eq]
  constructor
  · rintro ⟨x, hx, h⟩
    have : x = n := by simpa [eqV] using h
    rw [← this]; exact hx
  · intro h
    exact ⟨n, h, by simp [eqV]⟩
theorem flat_ints (ns : List Int) : (ns.map V.int).all flatV = true := by rw [List.all_map]; exact List.all_eq_true.mpr fun _ _ => rfl
section
variable {K : PySem.W.Frag} {H : Hp} {Q : VK} {p : Addr} {n : Int} {ns : List Int}
theorem inI (h : SqL K H p (ns.map V.int) ∨ SqT K H p (ns.map V.int)) (q : Q (.bl (decide (n ∈ ns))) H) : rIn K false (.int n) (.ref p) H Q := ⟨p, _, rfl, h, rfl, flat_ints ns, by rw [inV_int]; exact q⟩
theorem notInI (h : SqL K H p (ns.map V.int) ∨ SqT K H p (ns.map V.int)) (q : Q (.bl (!decide (n ∈ ns))) H) : rIn K true (.int n) (.ref p) H Q := ⟨p, _, rfl, h, rfl, flat_ints ns, by rw [inV_int]; exact q⟩
theorem gtup2 {i j : Nat} {a : Addr} {x y : V} {σ : L2.St} {P : L2.St → Hp → Prop} (h : SqT K H a [x, y]) (hq : P ((σ.set i (some x)).set j (some y)) H) : gTup K 2 (gCons (gName i) (gCons (gName j) gNil)) (.ref a) σ H P :=
  ⟨a, [x, y], rfl, h, rfl, x, [y], rfl, y, [], rfl, rfl, hq⟩
end
end Rd
namespace Rd
open PySem PySem.Spec L2 PyProof.Rows
/-- a tuple made by the run: it has no dictionary -/
def TupN (H : Hp) (a : Addr) (xs : List V) : Prop := ∃ ob : Obj, ob.dict = none ∧ H a = some (.frz ob (.tup xs))
section
variable {H H' : Hp} {a b : Addr} {xs ys : List V}
theorem TupN.sq {K : PySem.W.Frag} (h : TupN H a xs) : SqT K H a xs := by
  obtain ⟨ob, _, q⟩ := h
  exact .inl (.inr ⟨ob, q⟩)
theorem TupN.same (h : TupN H a xs) (e : Same H H') : TupN H' a xs := by
  obtain ⟨ob, d, q⟩ := h
  exact ⟨ob, d, e _ _ q⟩
theorem TupN.but (h : TupN H a xs) (e : But b H H') (n : a ≠ b) : TupN H' a xs := by
  obtain ⟨ob, d, q⟩ := h
  exact ⟨ob, d, e _ _ n q⟩
theorem TupN.ne (h : TupN H a xs) (n : H b = none) : a ≠ b := by
  obtain ⟨ob, d, q⟩ := h
  exact ne_of_none q n
theorem TupN.put {o : HO} (h : TupN H a xs) (n : a ≠ b) : TupN (upd H b o) a xs := by
  obtain ⟨ob, d, q⟩ := h
  exact ⟨ob, d, by rw [upd_ne n]; exact q⟩
theorem TupN.mk {ob : Obj} (d : ob.dict = none) : TupN (upd H a (.frz ob (.tup xs))) a xs := ⟨ob, d, upd_same⟩
theorem TupN.fn (h : TupN H a xs) : ∀ {C dx : Addr} {fs : List (Str × V)}, H a ≠ some (.ins C dx fs) := by
  obtain ⟨ob, d, q⟩ := h
  intro C dx fs z
  rw [q] at z
  cases z
theorem TupN.nl (h : TupN H a xs) : H a ≠ some (.lst ys) := by
  obtain ⟨ob, d, q⟩ := h
  intro z
  rw [q] at z
  cases z
end
/-- tuple(x): of a list a new one, of a tuple itself -/
def rTup (K : PySem.W.Frag) : List V → Hp → VK → Prop := fun vs H Q => ∃ p ys, vs = [.ref p] ∧
  ((SqL K H p ys ∧ ∀ (l : Addr) (ob : Obj), H l = none → ob.dict = none → Q (.ref l) (upd H l (.frz ob (.tup ys)))) ∨ (SqT K H p ys ∧ Q (.ref p) H))
theorem cr_tup {X : Cx} : CallR X (.type "tuple") (rTup X.K) := by
  intro _ s σ H _ _ Q I r ⟨p, ys, e, way⟩
  subst e
  obtain ⟨u, rfl,
        ru⟩ := vals1 r
  obtain rfl : u =
        Value.ref p := ru
  cases way with
  | inr tw =>
    obtain ⟨its, _, at_, _⟩ := I.tuple tw.1
    exact call_tuple_same at_ ⟨.ref p, H, I, rfl, tw.2⟩
  | inl lw =>
    obtain ⟨its, vals, at_, fit⟩ := I.list lw.1
    have few := vals.length
    refine call_tuple_list at_.isList (fun hp grow => ?_) (by rw [List.size_toArray]; omega)
    have J := I.kept (t' := s.toks) grow
    let ob : Obj := { cls := .type "tuple", data := .seq its.toArray }
    have lay : ObjOk X.prog X.w (upd H hp.objs.size (.frz ob (.tup ys))) (hp.push ob) hp.objs.size (.frz ob (.tup ys)) := ⟨Heap.get?_push_size _ rfl, fit, its, vals, IsTup.new _ _⟩
    exact ⟨.ref hp.objs.size, _, J.laid (t' := s.toks) (fun _ _ z => Heap.get?_push_of_some _ z) (Nat.le_refl _) lay, rfl, lw.2 _ ob (J.hok.fresh (Nat.le_refl _)) rfl⟩
section
variable {X : Cx}
theorem tup_is {pins : List (Addr × Obj)} {σ : L2.St} {H : Hp} {s : Shared} {p : Addr} {xs : List V} {v : Value} (I : L2.Inv X pins σ H s) (rv : RelV (.ref p) v) (h : TupN H p xs) :
    s.TypeIs v "tuple" ∧ ∀ a, v = .ref a → ∃ ob, s.heap.get? a = some ob ∧ ob.dict = none := by
  obtain ⟨ob, d, q⟩ := h
  obtain ⟨g, _, its, _, o2, g2, c, _⟩ := I.hok p _ q
  rw [g] at g2
  cases g2
  obtain rfl : v = Value.ref p := rv
  refine ⟨⟨ob, g, c⟩, fun a e => ?_⟩
  cases e
  exact ⟨ob, g, d⟩
/-- t.m(..), t such a tuple -/
def tBT (r : V → List V → Hp → VK → Prop) (to : TE) (t : TA) : TE := fun σ H Q => to σ H fun x H1 => (∃ p xs, x = .ref p ∧ TupN H1 p xs) ∧ t σ H1 fun xs H2 => r x xs H2 Q
theorem pe_bt {o e : Expr} {es : List Expr} {to : TE} {t : TA} {name : Str} {apos cpos : Pos} {id : String} {r : V → List V → Hp → VK → Prop}
    (pa : PlainAttrs "tuple") (slot : Slot "tuple" name id) (hty : typeOf (.builtin id) = pure (.type "method_descriptor")) (hm : MtR X id r) (ho : PE X o to) (ha : PA X (e :: es) t)
    (hbase : attributeBase o name X.env
          (eval o X.env) = eval o X.env := by rfl)
    (hfew : ((backTo cpos (starEach (e :: es) X.env)).all (fun x => !x.1)
          && (backToKw cpos (keywordEach [] X.env)).all (fun x => x.1.isSome)
      && decide ((e :: es).length + 0 + 0 < 30)) = true := by rfl)
    (hline : (apos.endLine == cpos.line) = true := by rfl) (hs : starEach (e :: es) X.env = (false, eval e X.env) :: starEach es X.env := by rfl) (hp : (backTo cpos (starEach es X.env)).any (·.1) = false := by rfl) :
    PE X (.Call (.Attribute o name apos) (e :: es) [] cpos) (tBT r to t) := by
  constructor
  intro pins s σ H Q I way
  refine wpAny_Call_method_late hbase hfew hline rfl (thn (ho.run pins s σ H _ I way) ?_)
  rintro v s1 ⟨_, H1, J, rv, ⟨p, xs, rfl, tn⟩, q1⟩
  have is := tup_is J rv tn
  refine ⟨"tuple", id, pa, slot, hty, is.1, is.2, ?_⟩
  have args := ha.run cpos pins s1 σ H1 _ J q1
  rw [hs] at args ⊢
  refine Calls.callWith_builtin (by rw [show (backTo cpos ((false, eval e X.env) :: starEach es X.env)).any (·.1) = (false || (backTo cpos (starEach es X.env)).any (·.1)) from rfl, hp]; rfl) (Calls.evalArgs_plain (thn args ?_))
  rintro us s2 ⟨vs, H2, J2, r2, q2⟩
  exact hm pins s2 σ H2 _ vs v us Q J2 rv r2 q2
theorem bm {K : PySem.W.Frag} {T : String} {σ : L2.St} {H : Hp} {to : TE} {t : TA} {r : V → List V → Hp → VK → Prop} {Q : VK} (h : to σ H fun x H1 => tyV K T x H1 ∧ t σ H1 fun xs H2 => r x xs H2 Q) : tBM K T r to t σ H Q := h
theorem bm0 {K : PySem.W.Frag} {T : String} {σ : L2.St} {H : Hp} {to : TE} {r : V → List V → Hp → VK → Prop} {Q : VK} (h : to σ H fun x H1 => tyV K T x H1 ∧ r x [] H1 Q) : tBM0 K T r to σ H Q := h
theorem tyL {K : PySem.W.Frag} {p : Addr} {xs : List V} {H : Hp} {B : Prop} (h : H p = some (.lst xs)) (b : B) : tyV K "list" (.ref p) H ∧ B := ⟨.inl ⟨rfl, xs, SqL.of h⟩, b⟩
theorem app {H : Hp} {Q : VK} {l : Addr} {xs : List V} {y : V} (h : H l = some (.lst xs)) (z : xs.length < sizeLine) (q : Q .non (upd H l (.lst (xs ++ [y])))) : rAppend (.ref l) [y] H Q := ⟨l, xs, y, rfl, rfl, h, z, q⟩
theorem bt {σ : L2.St} {H : Hp} {to : TE} {t : TA} {r : V → List V → Hp → VK → Prop} {Q : VK} (h : to σ H fun x H1 => (∃ p xs, x = .ref p ∧ TupN H1 p xs) ∧ t σ H1 fun xs H2 => r x xs H2 Q) : tBT r to t σ H Q := h
end
end Rd
/-! the rules with the written part named: within a comprehension it must not hang on the block -/
namespace Rk
open PySem PySem.Spec PyProof.Rows L2 Rd
section
variable {X : Cx} (K : PySem.W.Frag) (h : X.K = K := by rfl)
include h
theorem ixL : IxR X (rIxL K) := h ▸ ix_list
theorem ixT : IxR X (rIxT K) := h ▸ ix_tup
theorem inS : OpR X (compareOp .In) (rIn K false) := h ▸ op_in_seq
theorem ninS : OpR X (compareOp .NotIn) (rIn K true) := h ▸ op_notIn_seq
theorem bt {id : String} {name : Str} {r : V → List V → Hp → VK → Prop} {o e : Expr} {es : List Expr} {to : TE} {t : TA} {apos cpos : Pos} (pa : PlainAttrs "tuple") (slot : Slot "tuple" name id) (hty : typeOf (.builtin id) = pure (.type "method_descriptor")) (hm : MtR X id r) (ho : PE X o to) (ha : PA X (e :: es) t)
    (hbase : attributeBase o name X.env
          (eval o X.env) = eval o X.env := by rfl)
    (hfew : ((backTo cpos (starEach (e :: es) X.env)).all (fun x => !x.1)
          && (backToKw cpos (keywordEach [] X.env)).all (fun x => x.1.isSome)
      && decide ((e :: es).length + 0 + 0 < 30)) = true := by rfl)
    (hline : (apos.endLine == cpos.line) = true := by rfl) (hs : starEach (e :: es) X.env = (false, eval e X.env) :: starEach es X.env := by rfl) (hp : (backTo cpos (starEach es X.env)).any (·.1) = false := by rfl) :
    PE X (.Call (.Attribute o name apos) (e :: es) [] cpos) (tBT r to t) := pe_bt pa slot hty hm ho ha hbase hfew hline hs hp
theorem len : CallR X (.builtin "len") (fun xs H Q => ∃ p ys, xs = [.ref p] ∧ (SqL K H p ys ∨ SqT K H p ys) ∧ Q (.int ys.length) H) := h ▸ call_len_seq
theorem tup : CallR X (.type "tuple") (rTup K) := h ▸ cr_tup
theorem lis : CallR X (.type "list") (fun xs H Q => ∃ p ys, xs = [.ref p] ∧ (SqL K H p ys ∨ SqT K H p ys) ∧ ∀ l, H l = none → Q (.ref l) (upd H l (.lst ys))) := h ▸ call_list_of
theorem all (hc : X.calm = true) : CallR X (.builtin "all") (rAll K) := h ▸ cr_all hc
theorem any (hc : X.calm = true) : CallR X (.builtin "any") (rAny K) := h ▸ cr_any hc
theorem sum (hc : X.calm = true) : CallR X (.builtin "sum") (rSum K) := h ▸ cr_sum hc
theorem sortI : CallR X (.builtin "sorted") (rSortedI K) := h ▸ cr_sortedI
theorem sortLL (hu : X.A.units + 8 < cLine) : CallR X (.builtin "sorted") (Rs.rSortLL K) := h ▸ Rs.cr_sortLL hu
theorem isi : CallR X (.builtin "isinstance") (rIsi K) := h ▸ call_isi
theorem eqD (hu : X.A.units + 64 < cLine) : OpR X (compareOp .Eq) (rEqD K) := h ▸ op_eqD hu
theorem neD (hu : X.A.units + 64 < cLine) : OpR X (compareOp .NotEq) (rNeD K) := h ▸ op_neD hu
theorem inD (hu : X.A.units + 65 < cLine) : OpR X (compareOp .In) (rInD K) := h ▸ op_inD hu
theorem ninD (hu : X.A.units + 65 < cLine) : OpR X (compareOp .NotIn) (rNotInD K) := h ▸ op_notInD hu
theorem index : MtR X "list.index" (rIndex K) := h ▸ mt_index
theorem indexD (hu : X.A.units + 65 < cLine) : MtR X "list.index" (rIndexD K) := h ▸ mt_indexD hu
theorem tindex : MtR X "tuple.index" (fun x xs H Q => ∃ p, ∃ ys : List Int, ∃ (z : Int) (j : Nat), x = .ref p ∧ xs = [.int z] ∧ SqT K H p (ys.map V.int) ∧ ys[j]? = some z ∧ (∀ m, m < j → ys[m]? ≠ some z) ∧ Q (.int (j : Nat)) H) := h ▸ mt_tup_indexI
theorem fld {e : Expr} {ta : TE} {f : Str} {pos : Pos} (he : PE X e ta) (hb : attributeBase e f X.env (eval e X.env) = eval e X.env) : PE X (.Attribute e f pos) (tFld K ta f) := h ▸ pe_fld he hb
theorem pl {tg l : Expr} {tl : TE} (hl : PE X l tl) : PI X tg l (iList K tl) := h ▸ pi_list hl
theorem pt {tg l : Expr} {tl : TE} (hl : PE X l tl) : PI X tg l (iTup K tl) := h ▸ pi_tup hl
theorem bm0 {T id : String} {name : Str} {r : V → List V → Hp → VK → Prop} {o : Expr} {to : TE} {apos cpos : Pos} (pa : PlainAttrs T) (slot : Slot T name id) (hty : typeOf (.builtin id) = pure (.type "method_descriptor")) (hm : MtR X id r) (ho : PE X o to)
    (hbase : attributeBase o name X.env (eval o X.env) = eval o X.env := by rfl) (hline : (apos.endLine == cpos.line) = true := by rfl) : PE X (.Call (.Attribute o name apos) [] [] cpos) (tBM0 K T r to) := h ▸ pe_bm0 pa slot hty hm ho hbase hline
theorem bm {T id : String} {name : Str} {r : V → List V → Hp → VK → Prop} {o e : Expr} {es : List Expr} {to : TE} {t : TA} {apos cpos : Pos} (pa : PlainAttrs T) (slot : Slot T name id) (hty : typeOf (.builtin id) = pure (.type "method_descriptor")) (hm : MtR X id r) (ho : PE X o to) (ha : PA X (e :: es) t)
    (hbase : attributeBase o name X.env
          (eval o X.env) = eval o X.env := by rfl)
    (hfew : ((backTo cpos (starEach (e :: es) X.env)).all (fun x => !x.1)
          && (backToKw cpos (keywordEach [] X.env)).all (fun x => x.1.isSome)
      && decide ((e :: es).length + ([] : List Keyword).length + (if ([]
            : List Keyword).isEmpty then 0 else 1) < 30)) = true := by rfl)
    (hline : (apos.endLine == cpos.line) = true := by rfl) (hs : starEach (e :: es) X.env = (false, eval e X.env)
          :: starEach es X.env := by rfl) (hplain : (backTo cpos (starEach es X.env)).any (·.1) = false := by rfl) :
    PE X (.Call (.Attribute o name apos) (e :: es) [] cpos) (tBM K T r to t) := h ▸ pe_bm pa slot hty hm ho ha hbase hfew hline hs hplain
theorem gtup {es : List Expr} {k : Nat} {t : TGs} {n : Nat} {pos : Pos} (hc : X.calm = true) (hg : PGs X es t)
    (hn : (assignEach es X.env).length = n := by rfl) (hst : (assignEach es X.env).findIdx? (·.1) = none := by rfl) : PG X (.Tuple es k pos) (gTup K n t) := h ▸ pg_tup hc hg hn hst
end
end Rk

set_option linter.all false
/-! tables of groups: plain Lean, and how they lie in the heap -/
namespace GT
open PySem PySem.Spec PyProof.Rows L2 Rd
/-- entry y of row x -/
def at2 (t : List (List Int)) (x y : Nat) : Int := (t.getD x []).getD y 0
structure Sq (t : List (List Int)) : Prop where
  pos : 0 < t.length
  row : ∀ r ∈ t, r.length = t.length ∧ ∀ e ∈ r, 0 ≤ e ∧ e < (t.length : Int)
def Idn (t : List (List Int)) : Prop := ∀ x, x < t.length → at2 t 0 x = (x : Int) ∧ at2 t x 0 = (x : Int)
def Inv (t : List (List Int)) : Prop := ∀ r ∈ t, (0 : Int) ∈ r
def Asc (t : List (List Int)) : Prop := ∀ x y z, x < t.length → y < t.length → z < t.length → at2 t (at2 t x y).toNat z = at2 t x (at2 t y z).toNat
structure Grp (t : List (List Int)) : Prop where
  sq : Sq t
  idn : Idn t
  inv : Inv t
  asc : Asc t
theorem getD_of {α : Type} {l : List α} {i : Nat} {x d : α} (h : l[i]? = some x) : l.getD i d = x := by
  rw [List.getD_eq_getElem?_getD, h]; rfl
theorem Sq.rowAt {t : List (List Int)} (S : Sq t) {x : Nat} (h : x < t.length) : ∃ r, t[x]? = some r ∧ r.length = t.length ∧ t.getD x [] = r ∧ ∀ e ∈ r, 0 ≤ e ∧ e < (t.length : Int) := by
  refine ⟨t[x], List.getElem?_eq_getElem h, (S.row _ (List.getElem_mem h)).1, getD_of (List.getElem?_eq_getElem h), (S.row _ (List.getElem_mem h)).2⟩
theorem Sq.at {t : List (List Int)} (S : Sq t) {x y : Nat} (hx : x < t.length) (hy : y < t.length) : 0 ≤ at2 t x y ∧ at2 t x y < (t.length : Int) ∧ ∃ r, t[x]? = some r ∧ r[y]? = some (at2 t x y) := by
  obtain ⟨r, h1, h2, h3, h4⟩ := S.rowAt hx
  have h5 : r[y]? = some r[y] := List.getElem?_eq_getElem (by omega)
  have h6 : at2 t x y = r[y] := by unfold at2; rw [h3, getD_of h5]
  rw [h6]
  obtain ⟨a, b⟩ := h4 _ (List.getElem_mem (by omega : y < r.length))
  exact ⟨a, b, r, h1, h5⟩
theorem at2_of {t : List (List Int)} {x y : Nat} {r : List Int} {e : Int} (h1 : t[x]? = some r) (h2 : r[y]? = some e) : at2 t x y = e := by
  unfold at2; rw [getD_of h1, getD_of h2]
/-- the product as a natural number -/
def mul (t : List (List Int)) (x y : Nat) : Nat := (at2 t x y).toNat
theorem Sq.mul_lt {t : List (List Int)} (S : Sq t) {x y : Nat} (hx : x < t.length) (hy : y < t.length) : mul t x y < t.length := by
  obtain ⟨a, b, _⟩ := S.at hx hy
  unfold mul; omega
theorem Sq.mul_eq {t : List (List Int)} (S : Sq t) {x y : Nat} (hx : x < t.length) (hy : y < t.length) : at2 t x y = (mul t x y : Int) := by
  obtain ⟨a, b, _⟩ := S.at hx hy
  unfold mul; omega
theorem intAt {r : List Int} {n : Nat} {y : V} (h : (r.map V.int)[n]? = some y) : ∃ z, r[n]? = some z ∧ y = .int z := by
  rw [List.getElem?_map] at h
  cases q : r[n]? with
  | none => rw [q] at h; cases h
  | some z => rw [q] at h; cases h; exact ⟨z, rfl, rfl⟩
theorem all_id {n : Nat} {f : Nat → Bool} : ((List.range n).map f).all id = true ↔ ∀ i, i < n → f i = true := by
  rw [List.all_map, List.all_eq_true]
  simp
theorem map_bl (n : Nat) (f : Nat → Bool) : (List.range n).map (fun i => V.bl (f i)) = ((List.range n).map f).map V.bl := by rw [List.map_map]; rfl
theorem map_in (n : Nat) (f : Nat → Int) : (List.range n).map (fun i => V.int (f i)) = ((List.range n).map f).map V.int := by rw [List.map_map]; rfl
theorem rgV_eq (n : Nat) : rgV 0 (n : Int) = ((List.range n).map fun i => ((i : Nat) : Int)).map V.int := by
  unfold rgV
  rw [List.map_map]
  have e : ((n : Int) - 0).toNat = n := by omega
  rw [e]
  refine List.map_congr_left
        fun i _ => ?_
  show V.int (0 + (i : Int)) = V.int (i : Int)
  rw [Int.zero_add]
theorem eq_range {l : List Int} {n : Nat} : l = (List.range n).map (fun i => ((i : Nat) : Int)) ↔ l.length = n ∧ ∀ i, i < n → l[i]? = some (i : Int) := by
  constructor
  · rintro rfl
    refine ⟨by simp, fun i h => ?_⟩
    rw [List.getElem?_map, List.getElem?_range h]; rfl
  · rintro ⟨h1, h2⟩
    refine List.ext_getElem? fun i => ?_
    by_cases c : i < n
    · rw [h2 i c, List.getElem?_map, List.getElem?_range c]; rfl
    · rw [List.getElem?_eq_none (by omega), List.getElem?_eq_none (by simp; omega)]
/-! ### how they lie -/
/-- a list -/
def LstN (H : Hp) (a : Addr) (xs : List V) : Prop := H a = some (.lst xs)
abbrev AtK : Type := Hp → Addr → List V → Prop
/-- objects (lists or tuples of ints) at the addresses -/
structure Rows (at_ : AtK) (H : Hp) (rs : List Addr) (t : List (List Int)) : Prop where
  len : rs.length = t.length
  row : ∀ (i : Nat) (a : Addr) (r : List Int), rs[i]? = some a → t[i]? = some r → at_ H a (r.map V.int)
section
variable {H H' : Hp} {rs : List Addr} {t : List (List Int)} {at_ : AtK}
theorem Rows.map (R : Rows at_ H rs t) (k : ∀ a xs, a ∈ rs → at_ H a xs → at_ H' a xs) : Rows at_ H' rs t := ⟨R.len, fun i a r h1 h2 => k _ _ (List.mem_of_getElem? h1) (R.row i a r h1 h2)⟩
theorem Rows.same (R : Rows TupN H rs t) (e : Same H H') : Rows TupN H' rs t := R.map fun _ _ _ h => h.same e
theorem Rows.sameL (R : Rows LstN H rs t) (e : Same H H') : Rows LstN H' rs t := R.map fun _ _ _ h => e _ _ h
theorem Rows.get (R : Rows at_ H rs t) {i : Nat} (h : i < t.length) : ∃ a r, rs[i]? = some a ∧ t[i]? = some r ∧ at_ H a (r.map V.int) := by
  have h2 : i < rs.length := by rw [R.len]; exact h
  exact ⟨rs[i], t[i], List.getElem?_eq_getElem h2, List.getElem?_eq_getElem h, R.row i _ _ (List.getElem?_eq_getElem h2) (List.getElem?_eq_getElem h)⟩
theorem Rows.at (R : Rows at_ H rs t) {i : Nat} {x : V} (h : (rs.map V.ref)[i]? = some x) : ∃ a r, x = .ref a ∧ rs[i]? = some a ∧ t[i]? = some r ∧ at_ H a (r.map V.int) := by
  have hi : i < t.length := by
    have := (List.getElem?_eq_some_iff.mp h).1
    rw [List.length_map, R.len] at this
    exact this
  obtain ⟨a, r, h1, h2, h3⟩ := R.get hi
  rw [List.getElem?_map, h1] at h
  cases h
  exact ⟨a, r, rfl, h1, h2, h3⟩
end
/-- the group's object -/
def gfs (n : Int) (R I : Addr) : List (Str × V) := [("order", .int n), ("rows", .ref R), ("inverses", .ref I)]
/-- the first place of 0 in each row -/
def invs (t : List (List Int)) : List Int := t.map fun r => ((r.idxOf 0 : Nat) : Int)
theorem _root_.Rd.TupN.butL {H H' : Hp} {a b : Addr} {xs ys : List V} (h : TupN H a ys) (hb : H b = some (.lst xs)) (e : But b H H') : TupN H' a ys := h.but e fun z => h.nl (ys := xs) (z ▸ hb)
structure GrpAt (C : Addr) (H : Hp) (g : Addr) (t : List (List Int)) : Prop where
  grp : Grp t
  le : t.length ≤ 32
  ob : ∃ dx R I rs, H g = some (.ins C dx (gfs (t.length : Int) R I)) ∧ TupN H R (rs.map V.ref) ∧ Rows TupN H rs t ∧ TupN H I ((invs t).map V.int)
section
variable {C : Addr} {H H' : Hp} {g b : Addr} {t : List (List Int)} {xs : List V}
theorem GrpAt.same (G : GrpAt C H g t) (e : Same H H') : GrpAt C H' g t := by
  obtain ⟨dx, R, I, rs, h1, h2, h3, h4⟩ := G.ob
  exact ⟨G.grp, G.le, dx, R, I, rs, e _ _ h1, h2.same e, h3.same e, h4.same e⟩
theorem GrpAt.but (G : GrpAt C H g t) (hb : H b = some (.lst xs)) (e : But b H H') : GrpAt C H' g t := by
  obtain ⟨dx, R, I, rs, h1, h2, h3, h4⟩ := G.ob
  exact ⟨G.grp, G.le, dx, R, I, rs, e _ _ (fun z => by rw [z, hb] at h1; cases h1) h1, h2.butL hb e, h3.map fun _ _ _ h => h.butL hb e, h4.butL hb e⟩
end
theorem lkHere {k : Str} {v : V} {r : List (Str × V)} : List.lookup k ((k, v) :: r) = some v := by
  have e : (k ==
        k) = true := beq_self_eq_true k
  simp only [List.lookup, e]
theorem lkPast {k g : Str} {v : V} {r : List (Str × V)} (h : (k == g) = false) : List.lookup k ((g, v) :: r) = List.lookup k r := by
  simp only [List.lookup, h]
theorem lk_order (n : Int) (R I : Addr) : (gfs n R I).lookup ("order" : Str) = some (.int n) := lkHere
theorem lk_rows (n : Int) (R I : Addr) : (gfs n R I).lookup ("rows" : Str) = some (.ref R) := (lkPast (by decide +kernel)).trans lkHere
theorem lk_inv (n : Int) (R I : Addr) : (gfs n R I).lookup ("inverses" : Str) = some (.ref I) := (lkPast (by decide +kernel)).trans ((lkPast (by decide +kernel)).trans lkHere)
theorem lk_no {m : Str} (h1 : (m == ("order" : Str)) = false) (h2 : (m == ("rows" : Str)) = false) (h3 : (m == ("inverses" : Str)) = false) (n : Int) (R I : Addr) : (gfs n R I).lookup m = none :=
  (lkPast h1).trans ((lkPast h2).trans ((lkPast h3).trans rfl))
theorem put3 (n : Int) (R I : Addr) : putF "inverses" (.ref I) (putF "rows" (.ref R) (putF "order" (.int n) [])) = gfs n R I := by
  have e1 : ¬ (("order" : Str) = "rows") := by decide +kernel
  have e2 : ¬ (("order" : Str) = "inverses") := by decide +kernel
  have e3 : ¬ (("rows" : Str) = "inverses") := by decide +kernel
  show putF "inverses" (.ref I) (if ("order" : Str) = "rows" then _ else (("order" : Str), V.int n) :: putF "rows" (.ref R) []) = _
  rw [if_neg e1]
  show (if ("order" : Str) = "inverses" then _ else (("order" : Str), V.int n) :: (if ("rows" : Str) = "inverses" then _ else (("rows" : Str), V.ref R) :: putF "inverses" (.ref I) [])) = _
  rw [if_neg e2, if_neg e3]; rfl
theorem put2_len (n : Int) (R : Addr) : (putF "rows" (.ref R) (putF "order" (.int n) [])).length < 1000 := by
  have e1 : ¬ (("order" : Str) = "rows") := by decide +kernel
  show (if ("order" : Str) = "rows" then _ else (("order" : Str), V.int n) :: putF "rows" (.ref R) []).length < 1000
  rw [if_neg e1]
  show 2 < 1000
  decide
end GT

set_option linter.all false
/-! powers, orders, closures in a table that is a group's -/
namespace GT
section
variable {t : List (List Int)} (G : Grp t)
include G
theorem Grp.pos : 0 < t.length := G.sq.pos
theorem Grp.lt {x y : Nat} (hx : x < t.length) (hy : y < t.length) : mul t x y < t.length := G.sq.mul_lt hx hy
theorem Grp.assoc {x y z : Nat} (hx : x < t.length) (hy : y < t.length) (hz : z < t.length) : mul t (mul t x y) z = mul t x (mul t y z) :=
  congrArg Int.toNat (G.asc x y z hx hy hz)
theorem Grp.one_mul {x : Nat} (hx : x < t.length) : mul t 0 x = x := by
  show (at2 t 0 x).toNat = x
  rw [(G.idn x hx).1]; rfl
theorem Grp.mul_one {x : Nat} (hx : x < t.length) : mul t x 0 = x := by
  show (at2 t x 0).toNat = x
  rw [(G.idn x hx).2]; rfl
end
/-- the inverse: the first place of 0 in the row -/
def ivn (t : List (List Int)) (x : Nat) : Nat := (t.getD x []).idxOf 0
section
variable {t : List (List Int)} (G : Grp t)
include G
theorem Grp.inv_at {x : Nat} (hx : x < t.length) : ivn t x < t.length ∧ mul t x (ivn t x) = 0 := by
  obtain ⟨r, h1, h2, h3, h4⟩ := G.sq.rowAt hx
  have h5 := G.inv r (List.mem_of_getElem? h1)
  have h6 : r.idxOf 0 < r.length := List.idxOf_lt_length_of_mem h5
  have h7 : r[r.idxOf 0]? = some 0 := by
    rw [List.getElem?_eq_getElem h6]
    exact congrArg some (List.getElem_idxOf h6)
  unfold ivn
  rw [h3]
  refine ⟨by omega, ?_⟩
  show (at2 t x (r.idxOf 0)).toNat = 0
  rw [at2_of h1 h7]; rfl
theorem Grp.inv_lt {x : Nat} (hx : x < t.length) : ivn t x < t.length := (G.inv_at hx).1
theorem Grp.mul_inv {x : Nat} (hx : x < t.length) : mul t x (ivn t x) = 0 := (G.inv_at hx).2
theorem Grp.cancel {a b x : Nat} (ha : a < t.length) (hb : b < t.length) (hx : x < t.length) (h : mul t a x = mul t b x) : a = b := by
  have q := congrArg (fun u => mul t u (ivn t x)) h
  rw [G.assoc ha hx (G.inv_lt hx), G.assoc hb hx (G.inv_lt hx), G.mul_inv hx, G.mul_one ha, G.mul_one hb] at q
  exact q
theorem Grp.inv_mul {x : Nat} (hx : x < t.length) : mul t (ivn t x) x = 0 := by
  have hy := G.inv_lt hx
  have hz := G.inv_lt hy
  have p := G.lt hy hx
  have e1 : mul t (mul t (ivn t x) x) (mul t (ivn t x) (ivn t (ivn t x))) = mul t (ivn t x) (ivn t (ivn t x)) := by
    rw [G.assoc hy hx (G.lt hy hz), ← G.assoc hx hy hz, G.mul_inv hx, G.one_mul hz]
  rw [G.mul_inv hy, G.mul_one p] at e1
  exact e1
end
/-- x multiplied k times from the right to 0 -/
def pw (t : List (List Int)) (x : Nat) : Nat → Nat
  | 0 => 0
  | k + 1 => mul t (pw t x k) x
structure IsOrd (t : List (List Int)) (x k : Nat) : Prop where
  pos : 1 ≤ k
  one : pw t x k = 0
  least : ∀ j, 1 ≤ j → j < k → pw t x j ≠ 0
section
variable {t : List (List Int)} (G : Grp t)
include G
theorem Grp.pw_lt {x : Nat} (hx : x < t.length) : ∀ k, pw t x k < t.length
  | 0 => G.pos
  | k + 1 => G.lt (Grp.pw_lt hx k) hx
theorem Grp.pw_one {x : Nat} (hx : x < t.length) : pw t x 1 = x := G.one_mul hx
theorem Grp.pw_add {x : Nat} (hx : x < t.length) (a : Nat) : ∀ b, pw t x (a + b) = mul t (pw t x a) (pw t x b)
  | 0 => (G.mul_one (G.pw_lt hx a)).symm
  | b + 1 => by
    show mul t (pw t x (a + b)) x = _
    rw [Grp.pw_add hx a b, G.assoc (G.pw_lt hx a) (G.pw_lt hx b) hx]; rfl
theorem Grp.pw_back {x : Nat} (hx : x < t.length) : ∀ i j, i ≤ j → pw t x i = pw t x j → pw t x (j - i) = 0
  | 0, j, _, h => h.symm
  | i + 1, j, hij, h => by
    obtain ⟨m, rfl⟩ : ∃ m, j = m + 1 := ⟨j - 1, by omega⟩
    have := Grp.pw_back hx i m (by omega) (G.cancel (G.pw_lt hx i) (G.pw_lt hx m) hx h)
    rw [show m + 1 - (i + 1) = m - i by omega]
    exact this
theorem Grp.pw_zero {x : Nat} (hx : x < t.length) : ∃ k, 1 ≤ k ∧ k ≤ t.length ∧ pw t x k = 0 := by
  apply Classical.byContradiction
  intro no
  have nd : ((List.range (t.length + 1)).map (pw t x)).Nodup := by
    rw [List.Nodup, List.pairwise_map, List.pairwise_iff_getElem]
    intro i j hi hj hij
    rw [List.getElem_range, List.getElem_range]
    rw [List.length_range] at hi hj
    intro e
    exact no ⟨j - i, by omega, by omega, G.pw_back hx i j (by omega) e⟩
  have := nd.length_le_of_subset (l₂ := List.range t.length) (fun y hy => by
    obtain ⟨k, _, rfl⟩ := List.mem_map.mp hy
    exact List.mem_range.mpr (G.pw_lt hx k))
  rw [List.length_map, List.length_range, List.length_range] at this
  omega
theorem Grp.has_ord {x : Nat} (hx : x < t.length) : ∃ k, IsOrd t x k ∧ k ≤ t.length := by
  have H : ∀ n k, k ≤ n → 1 ≤ k → k ≤ t.length → pw t x k = 0 → ∃ k, IsOrd t x k ∧ k ≤ t.length := by
    intro n
    induction n with
    | zero => intro k h1 h2; omega
    | succ n ih =>
      intro k h1 h2 h3 h4
      by_cases c : ∃ j, 1 ≤ j ∧ j < k ∧ pw t x j = 0
      · obtain ⟨j, j1, j2, j3⟩ := c
        exact ih j (by omega) j1 (by omega) j3
      · exact ⟨k, ⟨h2, h4, fun j j1 j2 j3 => c ⟨j, j1, j2, j3⟩⟩, h3⟩
  obtain ⟨k, h1, h2, h3⟩ := G.pw_zero hx
  exact H k k (Nat.le_refl k) h1 h2 h3
theorem Grp.pw_mod {x k : Nat} (hx : x < t.length) (hk : IsOrd t x k) (e : Nat) : pw t x (e % k) = pw t x e := by
  have add : ∀ a q, pw t x (a + k * q) = pw t x a := by
    intro a q
    induction q with
    | zero => rfl
    | succ q ih =>
      rw [Nat.mul_succ, ← Nat.add_assoc, G.pw_add hx, hk.one, G.mul_one (G.pw_lt hx _)]
      exact ih
  have := add (e % k) (e / k)
  rw [Nat.mod_add_div] at this
  exact this.symm
theorem Grp.pw_inv {x : Nat} (hx : x < t.length) : ∀ e, mul t (pw t (ivn t x) e) (pw t x e) = 0
  | 0 => G.one_mul G.pos
  | e + 1 => by
    have hy := G.inv_lt hx
    have e1 : pw t x (e + 1) = mul t x (pw t x e) := by
      rw [Nat.add_comm e 1, G.pw_add hx 1 e, G.pw_one hx]
    rw [e1]
    show mul t (mul t (pw t (ivn t x) e) (ivn t x)) (mul t x (pw t x e)) = 0
    rw [G.assoc (G.pw_lt hy e) hy (G.lt hx (G.pw_lt hx e)), ← G.assoc hy hx (G.pw_lt hx e), G.inv_mul hx, G.one_mul (G.pw_lt hx e)]
    exact Grp.pw_inv hx e
theorem Grp.pw_neg {x k : Nat} (hx : x < t.length) (hk : IsOrd t x k) (e : Nat) : pw t x ((-(e : Int)) % (k : Int)).toNat = pw t (ivn t x) e := by
  have kp := hk.pos
  have h0 := Int.emod_nonneg (-(e : Int)) (by omega : (k : Int) ≠ 0)
  refine G.cancel (G.pw_lt hx _) (G.pw_lt (G.inv_lt hx) e) (G.pw_lt hx e) ?_
  rw [G.pw_inv hx e, ← G.pw_add hx, ← G.pw_mod hx hk]
  have h2 : (((-(e : Int)) % (k : Int)).toNat + e) % k = 0 := by
    have h3 : (((((-(e : Int)) % (k : Int)).toNat + e : Nat) : Int)) % (k : Int) = 0 := by
      rw [Int.natCast_add, Int.toNat_of_nonneg h0, Int.emod_add_emod]
      rw [show -(e : Int) + (e : Int) = 0 by omega]
      exact Int.zero_emod _
    have := Int.ofNat.inj (show ((((((-(e : Int)) % (k : Int)).toNat + e) % k : Nat)) : Int) = ((0 : Nat) : Int) by rw [Int.natCast_emod]; exact h3)
    exact this
  rw [h2]; rfl
end
theorem IsOrd.uniq {t : List (List Int)} {x k j : Nat} (h1 : IsOrd t x k) (h2 : IsOrd t x j) : k = j := by
  rcases Nat.lt_trichotomy k j with h | h | h
  · exact absurd h1.one (h2.least k h1.pos h)
  · exact h
  · exact absurd h2.one (h1.least j h2.pos h)
/-- what products of the elements reach from 0 -/
inductive Reach (t : List (List Int)) (ms : List Int) : Int → Prop
  | zero : Reach t ms 0
  | step {x m : Int} : Reach t ms x → m ∈ ms → Reach t ms (at2 t x.toNat m.toNat)
/-- the list of them, ascending -/
structure Closed (t : List (List Int)) (ms out : List Int) : Prop where
  asc : out.Pairwise (· < ·)
  mem : ∀ z, z ∈ out ↔ Reach t ms z
theorem Closed.uniq {t : List (List Int)} {ms a b : List Int} (h1 : Closed t ms a) (h2 : Closed t ms b) : a = b := by
  have n1 : a.Nodup := h1.asc.imp fun h => Int.ne_of_lt h
  have n2 : b.Nodup := h2.asc.imp fun h => Int.ne_of_lt h
  refine ((List.perm_ext_iff_of_nodup n1 n2).mpr fun z => (h1.mem z).trans (h2.mem z).symm).eq_of_pairwise (le := fun a b => a ≤ b) (fun x y _ _ h3 h4 => Int.le_antisymm h3 h4) (h1.asc.imp fun h => Int.le_of_lt h) (h2.asc.imp fun h => Int.le_of_lt h)
theorem Reach.lt {t : List (List Int)} {ms : List Int} (S : Sq t) (hm : ∀ m ∈ ms, 0 ≤ m ∧ m < (t.length : Int)) {z : Int} (h : Reach t ms z) : 0 ≤ z ∧ z < (t.length : Int) := by
  induction h with
  | zero => exact ⟨Int.le_refl 0, by have := S.pos; omega⟩
  | @step x m r hm2 ih =>
    obtain ⟨a, b⟩ := hm _ hm2
    have hx : x.toNat < t.length := by omega
    have hy : m.toNat < t.length := by omega
    obtain ⟨p, q, _⟩ := S.at hx hy
    exact ⟨p, q⟩
/-- a sorted list without duplicates is strictly ascending -/
theorem asc_of {a b : List Int} (p : b.Perm a) (s : b.Pairwise (· ≤ ·)) (n : a.Nodup) : b.Pairwise (· < ·) := by
  have nb : b.Nodup := p.nodup_iff.mpr n
  refine (s.and nb).imp fun {x y} h => ?_
  have := h.1
  have := h.2
  omega
/-- found so far -/
structure GenF (t : List (List Int)) (ms fs : List Int) : Prop where
  nd : fs.Nodup
  re : ∀ z ∈ fs, Reach t ms z
  z0 : (0 : Int) ∈ fs
theorem GenF.start (t : List (List Int)) (ms : List Int) : GenF t ms [0] := ⟨by simp, fun z h => by rw [List.mem_singleton.mp h]; exact .zero, by simp⟩
theorem GenF.add {t : List (List Int)} {ms fs : List Int} {x m : Int} (F : GenF t ms fs) (hx : x ∈ fs) (hm : m ∈ ms) (no : at2 t x.toNat m.toNat ∉ fs) : GenF t ms (fs ++ [at2 t x.toNat m.toNat]) := by
  refine ⟨List.nodup_append.mpr ⟨F.nd, by simp, fun a ha b hb => ?_⟩, fun z hz => ?_, List.mem_append_left _ F.z0⟩
  · rw [List.mem_singleton.mp
        hb]
    intro e
    exact no (e ▸ ha)
  · rcases List.mem_append.mp hz with h | h
    · exact F.re z h
    · rw [List.mem_singleton.mp h]
      exact .step (F.re x hx) hm
theorem GenF.few {t : List (List Int)} {ms fs : List Int} (F : GenF t ms fs) (S : Sq t) (hm : ∀ m ∈ ms, 0 ≤ m ∧ m < (t.length : Int)) : fs.length ≤ t.length := by
  have := F.nd.length_le_of_subset (l₂ := (List.range t.length).map fun i => ((i : Nat) : Int)) (fun z hz => by
    obtain ⟨a, b⟩ := (F.re z hz).lt S hm
    exact List.mem_map.mpr ⟨z.toNat, List.mem_range.mpr (by omega), by omega⟩)
  rw [List.length_map, List.length_range] at this
  exact this
theorem GenF.done {t : List (List Int)} {ms fs out : List Int} (F : GenF t ms fs) (cl : ∀ x ∈ fs, ∀ m ∈ ms, at2 t x.toNat m.toNat ∈ fs) (p : out.Perm fs) (s : out.Pairwise (· ≤ ·)) : Closed t ms out := by
  refine ⟨asc_of p s F.nd, fun z => ⟨fun h => F.re z (p.mem_iff.mp h), fun h => p.mem_iff.mpr ?_⟩⟩
  induction h with
  | zero => exact F.z0
  | step r hm ih => exact cl _ ih _ hm
/-- the marks of what is found -/
structure GenK (n : Nat) (fs : List Int) (kb : List Bool) : Prop where
  len : kb.length = n
  iff : ∀ i, i < n → (kb[i]? = some true ↔ ((i : Nat) : Int) ∈ fs)
theorem GenK.start {n : Nat} (h : 0 < n) : GenK n [0] ((List.replicate n false).set 0 true) := by
  refine ⟨by simp, fun i hi => ?_⟩
  rw [List.getElem?_set]
  by_cases c : 0 = i
  · subst c
    rw [if_pos rfl, if_pos (by simpa using h)]
    simp
  · rw [if_neg c, List.getElem?_replicate, if_pos hi]
    constructor
    · intro e; cases e
    · intro e
      have := List.mem_singleton.mp e
      omega
theorem GenK.add {n : Nat} {fs : List Int} {kb : List Bool} {p : Int} (Kb : GenK n fs kb) (h0 : 0 ≤ p) (h1 : p < (n : Int)) : GenK n (fs ++ [p]) (kb.set p.toNat true) := by
  refine ⟨by rw [List.length_set]; exact Kb.len, fun i hi => ?_⟩
  rw [List.getElem?_set]
  by_cases c : p.toNat = i
  · rw [if_pos c, if_pos (by rw [Kb.len]; omega)]
    refine iff_of_true rfl (List.mem_append_right _ (List.mem_singleton.mpr (by omega)))
  · rw [if_neg c, Kb.iff i hi, List.mem_append, List.mem_singleton]
    constructor
    · exact .inl
    · rintro (h | h)
      · exact h
      · omega
theorem GenK.get {n : Nat} {fs : List Int} {kb : List Bool} {p : Int} (Kb : GenK n fs kb) (h0 : 0 ≤ p) (h1 : p < (n : Int)) : kb[p.toNat]? = some (decide (p ∈ fs)) := by
  have h2 : p.toNat < kb.length := by rw [Kb.len]; omega
  have h3 := Kb.iff p.toNat (by omega)
  rw [Int.toNat_of_nonneg h0] at h3
  rw [List.getElem?_eq_getElem h2] at h3 ⊢
  congr 1
  by_cases c : p ∈ fs
  · rw [decide_eq_true c]
    exact Option.some.inj (h3.mpr c)
  · rw [decide_eq_false c]
    cases q : kb[p.toNat] with
    | false => rfl
    | true => rw [q] at h3; exact absurd (h3.mp rfl) c
theorem ixN_of {n j : Nat} {i : Int} (e : i = (j : Int)) (h : j < n) : L2.ixN n i = some j := by
  unfold L2.ixN
  rw [if_pos (by omega),
        if_pos (by omega)]
  congr 1
  omega
theorem map_set_bl {kb : List Bool} {j : Nat} {b : Bool} : (kb.map L2.V.bl).set j (.bl b) = (kb.set j b).map L2.V.bl := by rw [List.map_set]
theorem map_add_int {fs : List Int} {p : Int} : fs.map L2.V.int ++ [.int p] = (fs ++ [p]).map L2.V.int := by rw [List.map_append]; rfl
theorem map_get_bl {kb : List Bool} {j : Nat} {b : Bool} (h : kb[j]? = some b) : (kb.map L2.V.bl)[j]? = some (.bl b) := by rw [List.getElem?_map, h]; rfl
theorem map_get_int {kb : List Int} {j : Nat} {b : Int} (h : kb[j]? = some b) : (kb.map L2.V.int)[j]? = some (.int b) := by rw [List.getElem?_map, h]; rfl
open Classical in
/-- the generators among the elements below i -/
noncomputable def gensTo (t : List (List Int)) : Nat → List Int
  | 0 => []
  | i + 1 => if Reach t (gensTo t i) (i : Int) then gensTo t i else gensTo t i ++ [(i : Int)]
theorem gens_yes {t : List (List Int)} {i : Nat} (h : Reach t (gensTo t i) (i : Int)) : gensTo t (i + 1) = gensTo t i := if_pos h
theorem gens_no {t : List (List Int)} {i : Nat} (h : ¬ Reach t (gensTo t i) (i : Int)) : gensTo t (i + 1) = gensTo t i ++ [(i : Int)] := if_neg h
theorem gens_lt {t : List (List Int)} : ∀ i, ∀ x ∈ gensTo t i, 0 ≤ x ∧ x < (i : Int)
  | 0 => fun x h => by cases h
  | i + 1 => fun x h => by
    by_cases c : Reach t (gensTo t i) (i : Int)
    · rw [gens_yes c] at h
      have := gens_lt i x h
      omega
    · rw [gens_no c] at h
      rcases List.mem_append.mp
            h with h | h
      · have := gens_lt i x h
        omega
      · rw [List.mem_singleton.mp h]
        omega
theorem gens_len {t : List (List Int)} : ∀ i, (gensTo t i).length ≤ i
  | 0 => Nat.le_refl 0
  | i + 1 => by
    have := gens_len (t := t) i
    by_cases c : Reach t (gensTo t i) (i : Int)
    · rw [gens_yes c]; omega
    · rw [gens_no c, List.length_append, List.length_singleton]; omega
theorem Closed.nil (t : List (List Int)) : Closed t [] [0] := by
  refine ⟨by simp, fun z => ⟨fun h => by rw [List.mem_singleton.mp h]; exact .zero, fun h => ?_⟩⟩
  cases h with
  | zero => exact List.mem_singleton.mpr rfl
  | step _ h => cases h
def Comm (t : List (List Int)) : Prop := ∀ x y, x < t.length → y < t.length → at2 t x y = at2 t y x
/-- the table read by columns -/
def cols (t : List (List Int)) : List (List Int) := (List.range t.length).map fun y => (List.range t.length).map fun x => at2 t x y
theorem cols_at {t : List (List Int)} {y : Nat} (h : y < t.length) : (cols t).getD y [] = (List.range t.length).map fun x => at2 t x y := getD_of (by unfold cols; rw [List.getElem?_map, List.getElem?_range h]; rfl)
theorem comm_iff {t : List (List Int)} (S : Sq t) : t = cols t ↔ Comm t := by
  have rowx : ∀ x, x < t.length → ∃ r, t[x]? = some r ∧ r.length = t.length ∧ ∀ y, y < t.length → r[y]? = some (at2 t x y) := fun x hx => by
    obtain ⟨r, h1, h2, _, _⟩ := S.rowAt hx
    refine ⟨r, h1, h2, fun y hy => ?_⟩
    obtain ⟨_, _, r', w1, w2⟩ := S.at hx hy
    rw [h1] at w1
    cases w1
    exact w2
  constructor
  · intro h x y hx hy
    obtain ⟨r, h1, h2, h3⟩ := rowx x hx
    have h4 : (cols t)[x]? = some r := by rw [← h]; exact h1
    unfold cols at h4
    rw [List.getElem?_map, List.getElem?_range hx] at h4
    have h5 := h3 y hy
    rw [← Option.some.inj h4, List.getElem?_map, List.getElem?_range hy] at h5
    exact (Option.some.inj h5).symm
  · intro h
    refine List.ext_getElem? fun x => ?_
    by_cases hx : x < t.length
    · obtain ⟨r, h1, h2, h3⟩ := rowx x hx
      rw [h1]
      unfold cols
      rw [List.getElem?_map, List.getElem?_range hx]
      congr 1
      refine List.ext_getElem? fun y => ?_
      by_cases hy : y < t.length
      · rw [h3 y hy, List.getElem?_map, List.getElem?_range hy, h x y hx hy]; rfl
      · rw [List.getElem?_eq_none (by omega), List.getElem?_eq_none (by simp; omega)]
    · rw [List.getElem?_eq_none (by omega), List.getElem?_eq_none (by unfold cols; simp; omega)]
open L2 Rd in
/-- such tables as data -/
theorem dpRows {K : PySem.W.Frag} {H : Hp} : ∀ {rs : List PySem.Addr} {t : List (List Int)}, Rows TupN H rs t → DpAll K H (rs.map V.ref) (t.map iT)
  | [], [], _ => .nil
  | [], _ :: _, R => absurd R.len (by simp)
  | _ :: _, [], R => absurd R.len (by simp)
  | a :: rs, r :: t, R => .cons (dpT (R.row 0 a r rfl rfl).sq) (dpRows ⟨by have := R.len; simpa using this, fun i b q h1 h2 => R.row (i + 1) b q h1 h2⟩)
open L2 Rd in
theorem dpTab {K : PySem.W.Frag} {H : Hp} {R : PySem.Addr} {rs : List PySem.Addr} {t : List (List Int)} (h : TupN H R (rs.map V.ref)) (r : Rows TupN H rs t) : Dp K H (.ref R) (tT t) := .tup h.sq (dpRows r)
open L2 Rd in
theorem eqTab {K : PySem.W.Frag} {H : Hp} {Q : VK} {R R' : PySem.Addr} {rs rs' : List PySem.Addr} {t u : List (List Int)} (h1 : TupN H R (rs.map V.ref)) (r1 : Rows TupN H rs t) (h2 : TupN H R' (rs'.map V.ref)) (r2 : Rows TupN H rs' u) (h : Q (.bl (decide (t = u))) H) : rEqD K (.ref R) (.ref R') H Q :=
  ⟨_, _, dpTab h1 r1, dpTab h2 r2, tT_shaped _, tT_shaped _, by rw [tT_eqv]; exact h⟩
end GT

set_option linter.all false
/-! comprehensions with a test; pairs; the tables that laws draw -/
namespace Rd
open PySem PySem.Spec PyProof.Rows L2
section
variable {J : It} {xs : List V} {j : Nat} {te : TE} {tt : TT} {vs : List Nat} {σ : L2.St} {H : Hp} {Q : VK} {Qd : Addr → Hp → Prop}
/-- a comprehension with a test; nothing needs the heap -/
theorem lcIf (f : Nat → V) (p : Nat → Bool) (S : Src J xs H) (hz : xs.length ≤ 100000) (hw : ∀ x : V, wipe ((wipe σ vs).set j (some x)) vs = wipe σ vs)
    (ht : ∀ (n : Nat) (x : V) (H1 : Hp) (Q1 : Bool → Hp → Prop), xs[n]? = some x → Same H H1 → Q1 (p n) H1 → tt ((wipe σ vs).set j (some x)) H1 Q1)
    (hs : ∀ (n : Nat) (x : V) (H1 : Hp) (Q1 : VK), xs[n]? = some x → p n = true → Same H H1 → (∀ H2, Same H1 H2 → Q1 (f n) H2) → te ((wipe σ vs).set j (some x)) H1 Q1)
    (hq : ∀ (q : Addr) (H1 : Hp), H q = none → Same H H1 → H1 q = some (.lst (((List.range xs.length).filter p).map f)) → Qd q H1)
    (D : Addr) (hD : H D = none) :
    ∃ W : Nat → Nat → Hp → Prop, (∃ m, W 0 m (upd H D (.lst []))) ∧ ∀ i m H, W i m H →
      (J.stop i H ∧ Qd D H) ∨ (J.go i H ∧ ∃ Nx : Hp → Prop, (∀ H', Nx H' → ∃ m', m' < m ∧ W (i + 1) m' H') ∧ ∀ x H', J.yld i H x H' → gName j x (wipe σ vs) H' fun σ2 H2 => wipe σ2 vs = wipe σ vs ∧ tt σ2 H2 fun b H3 =>
        if b = true then te σ2 H3 fun y H4 => ∃ acc, H4 D = some (.lst
              acc) ∧ acc.length < sizeLine ∧ Nx (upd H4 D (.lst (acc ++ [y]))) else Nx H3) := by
  refine ⟨fun i m H1 => m = xs.length - i ∧ i ≤ xs.length ∧ Same H H1 ∧ H1 D = some (.lst (((List.range i).filter p).map f)), ⟨xs.length, rfl, Nat.zero_le _, same_mk hD, upd_same⟩, ?_⟩
  rintro i m H1 ⟨rfl, hi, e, hacc⟩
  by_cases c : i < xs.length
  · refine .inr ⟨S.go H1 _ e c, fun H' => Same H H' ∧ H' D = some (.lst (((List.range (i + 1)).filter p).map f)), fun H' z => ⟨xs.length - (i + 1), by omega, rfl, c, z⟩, fun x H' y => ?_⟩
    obtain ⟨rfl, hx⟩ := S.yld H1 _ x H' e y
    refine ⟨hw x, ht i x H' _ (hx c) e ?_⟩
    cases hp : p i with
    | true =>
      refine (if_pos rfl).mpr (hs i x H' _ (hx c) hp e fun H2 s2 => ?_)
      refine ⟨_, s2 _ _ hacc, ?_, same_mut (Same.trans e s2) hD, ?_⟩
      · rw [List.length_map]
        have := List.length_filter_le p (List.range i)
        rw [List.length_range] at this
        exact Nat.lt_of_lt_of_le (by omega : _ < 100000) (by decide)
      · rw [upd_same, List.range_succ, List.filter_append, List.map_append, List.filter_cons_of_pos hp]; rfl
    | false =>
      refine (if_neg Bool.false_ne_true).mpr ⟨e, ?_⟩
      rw [hacc, List.range_succ, List.filter_append, List.map_append, List.filter_cons_of_neg (by rw [hp]; exact Bool.false_ne_true)]
      simp
  · have e1 : i = xs.length := by omega
    subst e1
    exact .inl ⟨S.stop H1 e, hq D H1 hD e hacc⟩
end
/-- tuples of two ints: their addresses with what stands there -/
structure Prs (H : Hp) (ts : List Addr) (l : List (Int × Int)) : Prop where
  len : ts.length = l.length
  at_ : ∀ (i : Nat) (t : Addr) (q : Int × Int), ts[i]? = some t → l[i]? = some q → H t = some (.tup [.int q.1, .int q.2])
section
variable {H H' : Hp} {ts : List Addr} {l : List (Int × Int)}
theorem Prs.nil : Prs H [] [] := ⟨rfl, fun i t q h => by simp at h⟩
theorem Prs.same (h : Prs H ts l) (e : Same H H') : Prs H' ts l := ⟨h.len, fun i t q a b => e _ _ (h.at_ i t q a b)⟩
theorem Prs.but {p : Addr} {xs : List V} (h : Prs H ts l) (hp : H p = some (.lst xs)) (e : But p H H') : Prs H' ts l := ⟨h.len, fun i t q a b => by
  have z := h.at_ i t q a b
  exact e _ _ (ne_of z hp (by intro z; cases z)) z⟩
theorem Prs.snoc {t : Addr} {q : Int × Int} (h : Prs H ts l) (ht : H t = some (.tup [.int q.1, .int q.2])) : Prs H (ts ++ [t]) (l ++ [q]) := by
  refine ⟨by rw [List.length_append, List.length_append, h.len]; rfl, fun i u r a b => ?_⟩
  by_cases c : i < ts.length
  · rw [List.getElem?_append_left c] at a
    rw [List.getElem?_append_left (by rw [← h.len]; exact c)] at b
    exact h.at_ i u r a b
  · have lu := (List.getElem?_eq_some_iff.mp a).1
    rw [List.length_append, List.length_singleton] at lu
    have e : i = ts.length := by omega
    subst e
    rw [List.getElem?_append_right (Nat.le_refl _), Nat.sub_self] at a
    rw [h.len, List.getElem?_append_right (Nat.le_refl _), Nat.sub_self] at b
    cases a; cases b; exact ht
theorem Prs.pick (h : Prs H ts l) (idx : List Nat) (hi : ∀ j ∈ idx, j < l.length) : Prs H (idx.map fun j => ts.getD j 0) (idx.map fun j => l.getD j (0, 0)) := by
  refine ⟨by rw [List.length_map, List.length_map], fun i t q a b => ?_⟩
  rw [List.getElem?_map] at a b
  cases e : idx[i]? with
  | none => rw [e] at a; cases a
  | some j =>
    rw [e] at a b
    have hj := hi j (List.mem_of_getElem? e)
    have h1 : l[j]? = some l[j] := List.getElem?_eq_getElem hj
    have hj2 : j < ts.length := by rw [h.len]; exact hj
    have h2 : ts[j]? = some ts[j] := List.getElem?_eq_getElem hj2
    simp only [Option.map_some, List.getD_eq_getElem?_getD, h1, h2, Option.getD_some, Option.some.injEq] at a b
    subst a
    subst b
    exact h.at_ j _ _ h2 h1
theorem pick_mem (idx : List Nat) (hi : ∀ j ∈ idx, j < l.length) : ∀ q ∈ (idx.map fun j => l.getD j (0, 0)), q ∈ l := by
  intro q hq
  obtain ⟨j, hj, rfl⟩ := List.mem_map.mp hq
  have h := hi j hj
  rw [List.getD_eq_getElem?_getD, List.getElem?_eq_getElem h]
  exact List.getElem_mem h
theorem Prs.get (h : Prs H ts l) {i : Nat} {x : V} (hx : (ts.map V.ref)[i]? = some x) : ∃ t q, x = .ref t ∧ ts[i]? = some t ∧ l[i]? = some q ∧ H t = some (.tup [.int q.1, .int q.2]) := by
  rw [List.getElem?_map] at hx
  cases q : ts[i]? with
  | none => rw [q] at hx; cases hx
  | some t =>
    rw [q] at hx
    cases hx
    have hi : i < l.length := by rw [← h.len]; exact (List.getElem?_eq_some_iff.mp q).1
    exact ⟨t, l[i], rfl, rfl, List.getElem?_eq_getElem hi, h.at_ i t _ q (List.getElem?_eq_getElem hi)⟩
end
end Rd
namespace GT
/-- powers modulo n -/
def pwm (b n : Int) : Nat → Int
  | 0 => 1 % n
  | k + 1 => pwm b n k * b % n
theorem pwm_range {b n : Int} (hn : 1 ≤ n) : ∀ k, 0 ≤ pwm b n k ∧ pwm b n k < n
  | 0 => ⟨Int.emod_nonneg _ (by omega), Int.emod_lt_of_pos _ (by omega)⟩
  | k + 1 => ⟨Int.emod_nonneg _ (by omega), Int.emod_lt_of_pos _ (by omega)⟩
theorem pwm_one {n : Int} : ∀ k, pwm 1 n k = 1 % n
  | 0 => rfl
  | k + 1 => by
    show pwm 1 n k * 1 % n = _
    rw [pwm_one k, Int.mul_one, Int.emod_emod]
/-- entry y of row x of the metacyclic table times a cyclic one -/
def metaE (n m k r s x y : Int) : Int :=
  let a := x / (m * k) + pwm r n (x / k % m).toNat * (y / (m * k))
  let b := x / k % m + y / k % m
  ((if m ≤ b then a + s else a) % n * m + b % m) * k + (x + y) % k
theorem pack_lt {u v n m : Int} (hu0 : 0 ≤ u) (hu : u < n) (hv0 : 0 ≤ v) (hv : v < m) : 0 ≤ u * m + v ∧ u * m + v < n * m := by
  have h1 : 0 ≤ u * m := Int.mul_nonneg hu0 (by omega)
  have h2 : (u + 1) * m ≤ n * m := Int.mul_le_mul_of_nonneg_right (by omega) (by omega)
  rw [Int.add_mul,
        Int.one_mul] at h2
  omega
theorem metaE_range {n m k r s x y : Int} (hn : 1 ≤ n) (hm : 1 ≤ m) (hk : 1 ≤ k) : 0 ≤ metaE n m k r s x y ∧ metaE n m k r s x y < n * m * k := by
  unfold metaE
  simp only []
  have a := pack_lt (Int.emod_nonneg (if m ≤ x / k % m + y / k % m then x / (m * k) + pwm r n (x / k % m).toNat * (y / (m * k)) + s else x / (m * k) + pwm r n (x / k % m).toNat * (y / (m * k))) (by omega : n ≠ 0)) (Int.emod_lt_of_pos _ (by omega)) (Int.emod_nonneg (x / k % m + y / k % m) (by omega : m ≠ 0)) (Int.emod_lt_of_pos _ (by omega))
  exact pack_lt a.1 a.2 (Int.emod_nonneg (x + y) (by omega : k ≠ 0)) (Int.emod_lt_of_pos _ (by omega))
def metaT (n m k r s : Int) : List (List Int) := (List.range (n * m * k).toNat).map fun x => (List.range (n * m * k).toNat).map fun y => metaE n m k r s (x : Nat) (y : Nat)
structure MetaOk (n m k r s : Int) : Prop where
  n1 : 1 ≤ n
  m1 : 1 ≤ m
  k1 : 1 ≤ k
  r1 : 1 ≤ r
  rn : r ≤ n
  s0 : 0 ≤ s
  sn : s < n
  one : pwm r n m.toNat = 1 % n
  fix : (r - 1) * s % n = 0
theorem MetaOk.sq {n m k r s : Int} (M : MetaOk n m k r s) : Sq (metaT n m k r s) ∧ ((metaT n m k r s).length : Int) = n * m * k := by
  have p1 : 1 ≤ n * m := Int.mul_le_mul M.n1 M.m1 (by decide) (by have := M.n1; omega)
  have p2 : 1 ≤ n * m * k := Int.mul_le_mul p1 M.k1 (by decide) (by omega)
  have l : ((metaT n m k r s).length : Int) = n * m * k := by unfold metaT; rw [List.length_map, List.length_range]; omega
  refine ⟨⟨by omega, fun q hq => ?_⟩, l⟩
  rw [l]
  unfold metaT at hq ⊢
  obtain ⟨x, _, rfl⟩ := List.mem_map.mp hq
  refine ⟨by simp, fun e he => ?_⟩
  obtain ⟨y, _, rfl⟩ := List.mem_map.mp he
  exact metaE_range M.n1 M.m1 M.k1
end GT

set_option linter.all false
set_option maxRecDepth 100000
/-! permutations of four points -/
namespace GT
def quads : List (List Int) := [0, 1, 2, 3].flatMap fun a => [0, 1, 2, 3].flatMap fun b => [0, 1, 2, 3].flatMap fun c => [0, 1, 2, 3].map fun d => [a, b, c, d]
def perms4 : List (List Int) := quads.filter fun r => decide r.Nodup
/-- q after p -/
def comp (q p : List Int) : List Int := p.map fun x => q.getD x.toNat 0
def id4 : List Int := [0, 1, 2, 3]
theorem p4_len : perms4.length = 24 := by decide +kernel
theorem p4_id : id4 ∈ perms4 := by decide +kernel
theorem p4_comp : ∀ q ∈ perms4, ∀ p ∈ perms4, comp q p ∈ perms4 := by decide +kernel
theorem p4_rng : ∀ p ∈ perms4, p.length = 4 ∧ ∀ x ∈ p, 0 ≤ x ∧ x < 4 := by decide +kernel
theorem p4_one : ∀ p ∈ perms4, comp id4 p = p ∧ comp p id4 = p := by decide +kernel
theorem p4_of {r : List Int} (h : r.Perm [0, 1, 2, 3]) : r ∈ perms4 := by
  have l := h.length_eq
  have m : ∀ x ∈ r, x ∈ ([0, 1, 2, 3] : List Int) := fun x hx => h.mem_iff.mp hx
  have n : r.Nodup := h.nodup_iff.mpr (by decide)
  match r, l with
  | [a, b, c, d], _ =>
    refine List.mem_filter.mpr ⟨?_, decide_eq_true n⟩
    refine List.mem_flatMap.mpr ⟨a, m a (by simp), List.mem_flatMap.mpr ⟨b, m b (by simp), List.mem_flatMap.mpr ⟨c, m c (by simp), List.mem_map.mpr ⟨d, m d (by simp), rfl⟩⟩⟩⟩
theorem comp_assoc {a b c : List Int} (hb : b.length = 4) (hc : ∀ x ∈ c, 0 ≤ x ∧ x < 4) : comp (comp a b) c = comp a (comp b c) := by
  unfold comp
  rw [List.map_map]
  refine List.map_congr_left fun x hx => ?_
  obtain ⟨h0, h1⟩ := hc x hx
  show (b.map fun x => a.getD x.toNat 0).getD x.toNat 0 = a.getD (b.getD x.toNat 0).toNat 0
  have hl : x.toNat < b.length := by omega
  rw [List.getD_eq_getElem?_getD, List.getElem?_map, List.getD_eq_getElem?_getD (l := b), List.getElem?_eq_getElem hl]; rfl
/-- words in the makers -/
inductive Word (ms : List (List Int)) : List Int → Prop
  | one : Word ms id4
  | step {m z : List Int} : m ∈ ms → Word ms z → Word ms (comp m z)
structure GenP (ms fs : List (List Int)) : Prop where
  nd : fs.Nodup
  p4 : ∀ z ∈ fs, z ∈ perms4
  re : ∀ z ∈ fs, Word ms z
  one : id4 ∈ fs
theorem GenP.start (ms : List (List Int)) : GenP ms [id4] := ⟨by simp, fun z h => by rw [List.mem_singleton.mp h]; exact p4_id, fun z h => by rw [List.mem_singleton.mp h]; exact .one, by simp⟩
theorem GenP.add {ms fs : List (List Int)} {m z : List Int} (F : GenP ms fs) (hp : ∀ m ∈ ms, m ∈ perms4) (hm : m ∈ ms) (hz : z ∈ fs) (no : comp m z ∉ fs) : GenP ms (fs ++ [comp m z]) := by
  refine ⟨List.nodup_append.mpr ⟨F.nd, by simp, fun a ha b hb => ?_⟩, fun y hy => ?_, fun y hy => ?_, List.mem_append_left _ F.one⟩
  · rw [List.mem_singleton.mp
        hb]
    intro e
    exact no (e ▸ ha)
  · rcases List.mem_append.mp hy with h | h
    · exact F.p4 y h
    · rw [List.mem_singleton.mp h]
      exact p4_comp m (hp m hm) z (F.p4 z hz)
  · rcases List.mem_append.mp hy with h | h
    · exact F.re y h
    · rw [List.mem_singleton.mp h]
      exact .step hm (F.re z hz)
theorem GenP.few {ms fs : List (List Int)} (F : GenP ms fs) : fs.length ≤ 24 := by
  have := F.nd.length_le_of_subset (l₂ := perms4) F.p4
  rw [p4_len] at this
  exact this
theorem GenP.closed {ms fs : List (List Int)} (F : GenP ms fs) (hp : ∀ m ∈ ms, m ∈ perms4) (cl : ∀ z ∈ fs, ∀ m ∈ ms, comp m z ∈ fs) : ∀ q ∈ fs, ∀ p ∈ fs, comp q p ∈ fs := by
  intro q hq p hp2
  have hw := F.re q hq
  clear hq
  have pr := (p4_rng p (F.p4 p hp2)).2
  have key : ∀ q, Word ms q → q ∈ perms4 ∧ comp q p ∈ fs := by
    intro q hw
    induction hw with
    | one => exact ⟨p4_id, by rw [(p4_one p (F.p4 p hp2)).1]; exact hp2⟩
    | @step m z hm _ ih =>
      refine ⟨p4_comp m (hp m hm) z ih.1, ?_⟩
      rw [comp_assoc (p4_rng z ih.1).1 pr]
      exact cl _ ih.2 m hm
  exact (key q hw).2
/-- a set of permutations that is a group, in some order -/
structure PermOk (fs : List (List Int)) : Prop where
  nd : fs.Nodup
  p4 : ∀ z ∈ fs, z ∈ perms4
  one : id4 ∈ fs
  cl : ∀ q ∈ fs, ∀ p ∈ fs, comp q p ∈ fs
  le : fs.length ≤ 24
  asc : fs.Pairwise (fun x y => Rs.ltL y x = false)
def permT (fs : List (List Int)) : List (List Int) := fs.map fun p => fs.map fun q => ((fs.idxOf (comp q p) : Nat) : Int)
theorem PermOk.sq {fs : List (List Int)} (O : PermOk fs) : Sq (permT fs) ∧ (permT fs).length = fs.length := by
  have l : (permT fs).length = fs.length := by unfold permT; rw [List.length_map]
  refine ⟨⟨by rw [l]; exact List.length_pos_of_mem O.one, fun r hr => ?_⟩, l⟩
  rw [l]
  unfold permT at hr
  obtain ⟨p, hp, rfl⟩ := List.mem_map.mp hr
  refine ⟨by rw [List.length_map], fun e he => ?_⟩
  obtain ⟨q, hq, rfl⟩ := List.mem_map.mp he
  have := List.idxOf_lt_length_of_mem (O.cl q hq p hp)
  omega
open L2 Rd in
theorem dpRowsL {K : PySem.W.Frag} {H : Hp} : ∀ {rs : List PySem.Addr} {t : List (List Int)}, Rows LstN H rs t → DpAll K H (rs.map V.ref) (t.map iL)
  | [], [], _ => .nil
  | [], _ :: _, R => absurd R.len (by simp)
  | _ :: _, [], R => absurd R.len (by simp)
  | a :: rs, r :: t, R => .cons (dpL (SqL.of (R.row 0 a r rfl rfl))) (dpRowsL ⟨by have := R.len; simpa using this, fun i b q h1 h2 => R.row (i + 1) b q h1 h2⟩)
open Rd in
theorem anyL (d : List Int) : ∀ t : List (List Int), ((t.map iL).any fun z => PySem.PyData.eqv z (iL d)) = decide (d ∈ t)
  | [] => rfl
  | r :: t => by
    rw [List.map_cons, List.any_cons, anyL d t, iL_eqv, Bool.eq_iff_iff, Bool.or_eq_true, decide_eq_true_eq, decide_eq_true_eq, decide_eq_true_eq, List.mem_cons]
    constructor
    · rintro (h | h)
      · exact .inl h.symm
      · exact .inr h
    · rintro (h | h)
      · exact .inl h.symm
      · exact .inr h
open L2 Rd in
theorem notInLL {K : PySem.W.Frag} {H : Hp} {Q : VK} {a p : PySem.Addr} {rs : List PySem.Addr} {t : List (List Int)} {d : List Int} (hd : H a = some (.lst (d.map V.int))) (hp : H p = some (.lst (rs.map V.ref))) (R : Rows LstN H rs t) (h : Q (.bl (!decide (d ∈ t))) H) : rNotInD K (.ref a) (.ref p) H Q :=
  ⟨iL d, t.map iL, dpL (SqL.of hd), .lst (SqL.of hp) (dpRowsL R), iL_shaped d, lL_shaped t, by rw [anyL]; exact h⟩
open L2 Rd in
theorem indexLL {K : PySem.W.Frag} {H : Hp} {Q : VK} {a p : PySem.Addr} {rs : List PySem.Addr} {t : List (List Int)} {d : List Int} (hd : H a = some (.lst (d.map V.int))) (hp : H p = some (.lst (rs.map V.ref))) (R : Rows LstN H rs t) (m : d ∈ t) (h : Q (.int (t.idxOf d : Nat)) H) : rIndexD K (.ref p) [.ref a] H Q := by
  have h1 : t.idxOf d < t.length := List.idxOf_lt_length_of_mem m
  refine ⟨p, .ref a, iL d, t.map iL, t.idxOf d, iL d, rfl, rfl, .lst (SqL.of hp) (dpRowsL R), dpL (SqL.of hd), lL_shaped t, iL_shaped d, ?_, by rw [iL_eqv]; exact decide_eq_true rfl, fun n z' hn hz => ?_, h⟩
  · rw [List.getElem?_map, List.getElem?_eq_getElem h1, List.getElem_idxOf h1]; rfl
  · have hn2 : n < t.length := by omega
    rw [List.getElem?_map, List.getElem?_eq_getElem hn2] at hz
    cases hz
    rw [iL_eqv]
    refine decide_eq_false fun e => ?_
    have := List.not_of_lt_findIdx (p := fun x => x == d) (xs := t) (i := n) hn
    rw [e] at this
    simp at this
theorem erase_perm {α : Type} {l : List α} {k : Nat} {y : α} (h : l[k]? = some y) : (y :: l.eraseIdx k).Perm l := by
  obtain ⟨hk, e⟩ := List.getElem?_eq_some_iff.mp h
  have e2 : l = l.take k ++ y :: l.drop (k + 1) := by
    rw [← e, List.getElem_cons_drop hk, List.take_append_drop]
  rw [List.eraseIdx_eq_take_drop_succ]
  refine List.Perm.trans ?_ (List.Perm.of_eq e2.symm)
  exact List.perm_middle.symm
theorem ref_int {as : List PySem.Addr} {m : List Int} (h : as.map L2.V.ref = m.map L2.V.int) : m = [] := by
  cases m with
  | nil => rfl
  | cons x xs =>
    cases as with
    | nil => cases h
    | cons a as => cases h
end GT

set_option linter.all false
/-! tables with other numbers -/
namespace GT
structure NmOk (n : Nat) (ns : List Int) : Prop where
  len : ns.length = n
  rng : ∀ x ∈ ns, 0 ≤ x ∧ x < (n : Int)
  nd : ns.Nodup
  zero : 0 < n → ns[0]? = some 0
theorem NmOk.start (n : Nat) : NmOk n ((List.range n).map fun i => ((i : Nat) : Int)) := by
  refine ⟨by rw [List.length_map, List.length_range], fun x hx => ?_, ?_, fun h => by rw [List.getElem?_map, List.getElem?_range h]; rfl⟩
  · obtain ⟨i, hi, rfl⟩ := List.mem_map.mp hx
    have := List.mem_range.mp hi
    omega
  · rw [List.Nodup, List.pairwise_map]
    exact List.nodup_range.imp fun {a b} h e => h (by omega)
theorem swap_at {ns : List Int} {x y i : Nat} {a b : Int} (hx : ns[x]? = some a) (hy : ns[y]? = some b) : ((ns.set x b).set y a)[i]? = ns[if i = y then x else if i = x then y else i]? := by
  have lx := (List.getElem?_eq_some_iff.mp hx).1
  have ly := (List.getElem?_eq_some_iff.mp hy).1
  rw [List.getElem?_set, List.getElem?_set, List.length_set]
  by_cases c : i = y
  · subst c
    rw [if_pos rfl, if_pos ly, if_pos rfl, hx]
  · rw [if_neg (fun z => c z.symm), if_neg c]
    by_cases d : i = x
    · subst d
      rw [if_pos rfl, if_pos lx, if_pos rfl, hy]
    · rw [if_neg (fun z => d z.symm), if_neg d]
theorem NmOk.swap {n : Nat} {ns : List Int} {x y : Nat} {a b : Int} (N : NmOk n ns) (hx : ns[x]? = some a) (hy : ns[y]? = some b) (x1 : 1 ≤ x) (y1 : 1 ≤ y) : NmOk n ((ns.set x b).set y a) := by
  have lx := (List.getElem?_eq_some_iff.mp hx).1
  have ly := (List.getElem?_eq_some_iff.mp hy).1
  refine ⟨by rw [List.length_set, List.length_set]; exact N.len, fun z hz => ?_, ?_, fun h => ?_⟩
  · obtain ⟨i, hi⟩ := List.getElem?_of_mem hz
    rw [swap_at hx hy] at hi
    exact N.rng z (List.mem_of_getElem? hi)
  · rw [List.Nodup, List.pairwise_iff_getElem]
    intro i j hi hj hij e
    have e1 : ((ns.set x b).set y a)[i]? = ((ns.set x b).set y a)[j]? := by rw [List.getElem?_eq_getElem hi, List.getElem?_eq_getElem hj, e]
    rw [List.length_set, List.length_set] at hi hj
    rw [swap_at hx hy, swap_at hx hy] at e1
    have lt : (if i = y then x else if i = x then y else i) < ns.length := by
      split
      · exact lx
      · split
        · exact ly
        · exact hi
    have := (List.getElem?_inj lt N.nd).mp e1
    split at this <;> split at this <;> (try split at this) <;> (try split at this) <;> omega
  · rw [swap_at hx hy, if_neg (by omega), if_neg (by omega)]
    exact N.zero h
theorem NmOk.onto {n : Nat} {ns : List Int} (N : NmOk n ns) {k : Nat} (hk : k < n) : ∃ i, i < n ∧ ns[i]? = some (k : Int) := by
  have m : (k : Int) ∈ ns := by
    apply Classical.byContradiction
    intro no
    have := (List.nodup_cons.mpr ⟨no, N.nd⟩).length_le_of_subset (l₂ := (List.range n).map fun i => ((i : Nat) : Int)) (fun z hz => by
      rcases List.mem_cons.mp hz with h | h
      · rw [h]
        exact List.mem_map.mpr ⟨k, List.mem_range.mpr hk, rfl⟩
      · obtain ⟨h1, h2⟩ := N.rng z h
        exact List.mem_map.mpr ⟨z.toNat, List.mem_range.mpr (by omega), by omega⟩)
    rw [List.length_cons, List.length_map, List.length_range, N.len] at this
    omega
  obtain ⟨i, hi⟩ := List.getElem?_of_mem m
  exact ⟨i, by rw [← N.len]; exact (List.getElem?_eq_some_iff.mp hi).1, hi⟩
/-- the name of x -/
def nm (ns : List Int) (x : Nat) : Nat := (ns.getD x 0).toNat
theorem NmOk.at_ {n : Nat} {ns : List Int} (N : NmOk n ns) {x : Nat} (hx : x < n) : ns[x]? = some (nm ns x : Int) ∧ nm ns x < n := by
  have lx : x < ns.length := by rw [N.len]; exact hx
  obtain ⟨h1, h2⟩ := N.rng ns[x] (List.getElem_mem lx)
  unfold nm
  rw [getD_of (List.getElem?_eq_getElem lx), List.getElem?_eq_getElem lx]
  exact ⟨congrArg some (by omega), by omega⟩
theorem NmOk.inj {n : Nat} {ns : List Int} (N : NmOk n ns) {x y : Nat} (hx : x < n) (hy : y < n) (h : nm ns x = nm ns y) : x = y := by
  refine (List.getElem?_inj (by rw [N.len]; exact hx) N.nd).mp ?_
  rw [(N.at_ hx).1, (N.at_ hy).1, h]
structure Ren (t : List (List Int)) (ns : List Int) (u : List (List Int)) : Prop where
  nms : NmOk t.length ns
  len : u.length = t.length
  row : ∀ r ∈ u, r.length = t.length
  at_ : ∀ x y, x < t.length → y < t.length → at2 u (nm ns x) (nm ns y) = (nm ns (mul t x y) : Int)
theorem Ren.sq {t u : List (List Int)} {ns : List Int} (R : Ren t ns u) (S : Sq t) : Sq u := by
  refine ⟨by rw [R.len]; exact S.pos, fun r hr => ⟨by rw [R.len]; exact R.row r hr, fun e he => ?_⟩⟩
  obtain ⟨i, hi⟩ := List.getElem?_of_mem hr
  obtain ⟨j, hj⟩ := List.getElem?_of_mem he
  have li : i < t.length := by rw [← R.len]; exact (List.getElem?_eq_some_iff.mp hi).1
  have lj : j < t.length := by rw [← R.row r hr]; exact (List.getElem?_eq_some_iff.mp hj).1
  obtain ⟨x, hx, ex⟩ := R.nms.onto li
  obtain ⟨y, hy, ey⟩ := R.nms.onto lj
  have nx : nm ns x = i := by
    have := (R.nms.at_ hx).1
    rw [ex] at this
    have := Option.some.inj this
    omega
  have ny : nm ns y = j := by
    have := (R.nms.at_ hy).1
    rw [ey] at this
    have := Option.some.inj this
    omega
  have h := R.at_ x y hx hy
  rw [nx, ny, at2_of hi hj] at h
  have l := (R.nms.at_ (S.mul_lt hx hy)).2
  rw [h, R.len]
  omega
theorem at2_set {u : List (List Int)} {X Y : Nat} {r : List Int} {v : Int} (hr : u[X]? = some r) (hY : Y < r.length) (X' Y' : Nat) : at2 (u.set X (r.set Y v)) X' Y' = if X' = X ∧ Y' = Y then v else at2 u X' Y' := by
  have lX := (List.getElem?_eq_some_iff.mp hr).1
  unfold at2
  rw [List.getD_eq_getElem?_getD (l := u.set X (r.set Y v)), List.getElem?_set]
  by_cases c : X = X'
  · subst c
    rw [if_pos rfl, if_pos lX, Option.getD_some, List.getD_eq_getElem?_getD, List.getElem?_set, getD_of hr]
    by_cases d : Y = Y'
    · subst d
      rw [if_pos rfl, if_pos hY, if_pos ⟨rfl, rfl⟩]; rfl
    · rw [if_neg d, if_neg (fun z => d z.2.symm), List.getD_eq_getElem?_getD]
  · rw [if_neg c, if_neg (fun z => c z.1.symm), ← List.getD_eq_getElem?_getD]
open PySem L2 Rd in
theorem Rows.put {H : Hp} {ra : List Addr} {u : List (List Int)} {X : Nat} {a : Addr} {r : List Int} (R : Rows LstN H ra u) (nd : ra.Nodup) (ha : ra[X]? = some a) : Rows LstN (upd H a (.lst (r.map V.int))) ra (u.set X r) := by
  have lX := (List.getElem?_eq_some_iff.mp ha).1
  refine ⟨by rw [List.length_set]; exact R.len, fun i b q h1 h2 => ?_⟩
  unfold LstN
  rw [List.getElem?_set] at h2
  by_cases c : X = i
  · subst c
    rw [ha] at h1
    cases h1
    rw [if_pos rfl, if_pos (by rw [← R.len]; exact lX)] at h2
    cases h2
    exact upd_same
  · rw [if_neg c] at h2
    rw [upd_ne (fun z => c ((List.getElem?_inj lX nd).mp (by rw [ha, h1, z])))]
    exact R.row i b q h1 h2
end GT
namespace Rd
open PySem PySem.Spec PyProof.Rows L2
theorem rng3 {ta : TA} {σ : L2.St} {H : Hp} {R : It → Hp → Prop} (h : ta σ H fun vs H1 => ∃ (i j c : Int) (n : Nat), vs = [.int i, .int j, .int c] ∧ RgC i j c n ∧ R (Itc i c n) H1) : iRng3 ta σ H R := h
end Rd

set_option linter.all false
/-! what is tried -/
namespace Rd
open PySem PySem.Spec L2 PyProof.Rows
/-- what a callee lets out, to an except clause that asks nothing of the slots but how many they are -/
theorem passT {X : Cx} {W : WX} {n : Nat} (tk : Takes X W) (hn : X.N.length = n) : Passes (L2.CX X.prog X.w) X (fun cls d H' => ∀ σ' : L2.St, σ'.length = n → W cls d σ' H') :=
  fun _ σ _ _ e s' I c => tk e s' (XE.of_call I (fun _ _ _ h => h σ (I.len.trans hn)) c)
theorem psIf {X : Cx} {b : List Stmt} {P : Prop} {t : TS} (h : P → PSs X b t) : PSs X b (fun D σ H => P ∧ t D σ H) :=
  ⟨fun pins s σ H D I q => (h q.1).run pins s σ H D I q.2⟩
theorem zc_of {cls c : Value} {d : Option Addr} {oe : Obj} (h : Zc cls d oe) (e : cls = c) (z : d = none) : Zc c none oe := by
  subst e
  subst z
  exact h
theorem excOk {K : PySem.W.Frag} {C : Addr} {b : Bool} {cls : Value} (E : ExcC K C) (t : PySem.W.typeIn K (.ref C) = some (.type "type")) (s : PySem.W.subIn K cls (.ref C) = some b) : PySem.W.exmOne K cls (.ref C) = some b :=
  PySem.W.exm_ref E.hs E.hd t s
end Rd

namespace Rd
open PySem PySem.Spec L2 PyProof.Rows
abbrev Cl : Type := Value × Nat × (Addr → Value → Option Addr → TS)
/-- the ends of a suite whose name is unbound behind it -/
abbrev endsAs (D : Ends) (i : Nat) : Ends := { nx := fun σ' H' => D.nx (σ'.set i none) H', rt := D.rt, bk := fun σ' H' => D.bk (σ'.set i none) H', ct := fun σ' H' => D.ct (σ'.set i none) H' }
/-- what several clauses 'except x as n' wish, one after the other -/
def wAsMany (K : PySem.W.Frag) (Wout : WX) (D : Ends) : List Cl → WX
  | [] => Wout
  | (c, i, ts) :: r => fun cls d σ H => ∃ b, PySem.W.exmOne K cls c = some b ∧ (b = true → ∀ a, H a = none → ts a cls d (endsAs D i) (σ.set i (some (.ref a))) H) ∧ (b = false → wAsMany K Wout D r cls d σ H)
inductive HdsAs (X : Cx) : List ExceptHandler → List Cl → Prop
  | nil : HdsAs X [] []
  | cons {x n : Str} {c : Value} {i : Nat} {ts : Addr → Value → Option Addr → TS} {b₀ : Stmt} {suite : List Stmt} {np q : Pos} {hds : List ExceptHandler} {l : List Cl} (hi : X.N[i]? = some n) (hln : X.env.kindOf n = some .local) (hc : Names X x c)
      (hsu : ∀ (a : Addr) (oe : Obj) (cls : Value) (d : Option Addr) (pn : List (Addr × Obj)), Zc cls d oe → (∃ vs, oe.data = .fields vs) → PSs (X.suite a ((a, oe) :: pn)) (b₀ :: suite) (ts a cls d))
      (r : HdsAs X hds l) : HdsAs X (.ExceptHandler (some (.Name x np)) (some n) (b₀ :: suite) q :: hds) ((c, i, ts) :: l)
section
variable {X : Cx} {body : List Stmt} {h₀ : ExceptHandler} {hds : List ExceptHandler} {l : List Cl} {pos : Pos} {tb : WX → TS} {Wout : WX}
theorem ps_try_asMany (hs : X.stack = X.env :: X.outer) (hf : X.env.frame = some X.env.locals) (hN : X.N.Nodup) (tk : Takes X Wout)
    (hb : ∀ (W : WX) (pn : List (Addr × Obj)) (xe : Value → Shared → Prop), Takes (X.tr pn xe) W → PassesOwn (model X.prog X.w) X.A X.env xe → PSs (X.tr pn xe) body (tb W))
    (hh : HdsAs X (h₀ :: hds) l) : PS X (.Try body (h₀ :: hds) [] [] pos) (fun D σ H => tb (wAsMany X.K Wout D l) D σ H) := by
  constructor
  intro pins s σ H D I way
  have ok := I.ok
  have fr : X.A.frames = some (X.env :: X.outer) := by rw [ok.frames, hs]
  refine wpAny_Try_except ?_
  have run := fun xe t p => (hb (wAsMany X.K Wout D l) (X.pn ++ pins) xe t p).run [] s σ H D (I.toTry _) way
  refine wpAny_mono (run (fun e s₁ => wpAny (model X.prog X.w) X.A (noteFrame e X.env) (fun _ s₂ => wpAny (model X.prog X.w) X.A (setFlight e none) (fun _ s₃ =>
    wpAny (model X.prog X.w) X.A (handleBy e X.env (h₀ :: hds)) (SP X pins D) X.xe s₃) X.xe s₂) X.xe s₁) ?_ PassesOwn.looking) ?_ (fun _ _ z => z)
  · rintro u s' ⟨a, B, sI, pins', σ', H', cls, d, rfl, J', nb, up, sky, na, os, ag, wish⟩
    have J : Inv X pins σ' H' sI := J'.ofTry ok
    rw [hs] at sky
    show wpAny _ X.A (noteFrame (.ref a) X.env) _ _ _
    refine Sky.land Zc.steady fr hf sky fun h3 fl3 up3 => ?_
    have up13 := up.trans up3
    have J3 : Inv X pins σ' H' { s' with heap := h3 } := J.landed nb fl3.1 up13 os ag
    obtain ⟨oe3, vs3, he3, hz3, hd3⟩ := fl3.there
    have nfr : a ∉ frs (X.env :: X.outer) := fun hm => by
      obtain ⟨_, o2, e2, k2⟩ := fl3.2.2.1.mem hm
      rw [he3] at e2
      cases e2
      exact k2 _ hd3
    have nL : a ≠ X.env.locals := fun z => nfr (List.mem_filterMap.mpr ⟨X.env, List.mem_cons_self, by rw [z]; exact hf⟩)
    have nF : a ∉ X.fs := fun hm => by
      obtain ⟨e2, h2, q2⟩ := List.mem_filterMap.mp hm
      exact nfr (List.mem_filterMap.mpr ⟨e2, List.mem_cons_of_mem _ h2, q2⟩)
    have S3 := J3.suite he3 hd3 na nL nF
    have go : ∀ {hds2 : List ExceptHandler} {l2 : List Cl}, HdsAs X hds2 l2 → wAsMany X.K Wout D l2 cls d σ' H' → wpAny (model X.prog X.w) X.A (handleBy (.ref a) X.env hds2) (SP X pins D) X.xe { s' with heap := h3 } := by
      intro hds2 l2 hk
      induction hk with
      | nil =>
        intro out
        refine wpAny_handleBy_nil ?_
        obtain ⟨_, _, _, oe, vs, T, _, _, he, _, hd, h1, _⟩ := id fl3
        unfold PySem.passOn
        refine wpAny_bind (wpAny_field he hd h1 ?_)
        rw [if_neg (by simp)]
        have fly : wpAny (model X.prog X.w) X.A (setFlight (.ref a) X.env.frame) (fun _ s4 => wpAny (model X.prog X.w) X.A (throw (.ref a) : Sem Flow) (SP X pins D) X.xe s4) X.xe { s' with heap := h3 } := by
          rw [hf]
          refine HandSPX.setFlight_upZ fl3 fun h4 held up4 => wpAny_throw (tk _ _ ⟨a, B, sI, pins, σ', H', cls, d, rfl, J, nb, up13.trans up4, .inr (.inr ?_), na, os, ag, out⟩)
          rw [hs]
          exact held
        first
          | exact wpAny_bind fly
          | exact wpAny_bind (wpAny_pure (wpAny_bind fly))
      | @cons x n c i ts b₀ suite np q hds3 l3 hi hln hc hsu r ih =>
        rintro ⟨b, hb1, yes, no⟩
        have loc : Loc X.env.scope n := .inl hln
        refine wpAny_handleBy_cons (codeAny_handlers_test ?_) (by intro z; cases z)
        have look : PySem.W.Looks (model X.prog X.w) h3 (typeOf (.ref a)) cls := fun _ _ _ _ k z => wpAny_typeOf_ref (k _ _ he3) (by rw [hz3.1]; exact z)
        have ans := PySem.W.exm_one (M := model X.prog X.w) J3.kIn look hb1
        have ask : ∀ {Q E : Value → Shared → Prop}, Q c { s' with heap := h3 } → wpAny (model X.prog X.w) (X.A.mark (some (.ref a))) (eval (.Name x np) X.env) Q E { s' with heap := h3 } := by
          intro Q E z
          obtain ⟨hg, hdb, own | ⟨hm, hv, hn⟩⟩ := hc
          · exact ld_glob (X := X.suite a ((a, oe3) :: (X.pn ++ pins))) S3 hg own z hdb
          · exact ld_blt (X := X.suite a ((a, oe3) :: (X.pn ++ pins))) S3 hg hm hv z hn hdb
        refine ask (ans.here ?_)
        cases b with
        | false =>
          show wpAny _ X.A (handleBy (.ref a) X.env hds3) _ _ _
          exact ih (no rfl)
        | true =>
          refine codeAny_handlers_suite_as (HandSPX.lands_againZ fl3 fun h4 fl4 up4 => ?_)
          have J4 : Inv X pins σ' H' { s' with heap := h4 } := J.landed nb fl4.1 (up13.trans up4) os ag
          obtain ⟨oe4, vs4, he4, hz4, hd4⟩ := fl4.there
          have S4 := J4.suite he4 hd4 na nL nF
          refine store_ok (X := X.suite a ((a, oe4) :: (X.pn ++ pins))) (v := .ref a) S4 hN hi loc rfl (fun s5 S5 => ?_) (.inr hln)
          have went := (hsu a oe4 cls d (X.pn ++ pins) hz4 ⟨_, hd4⟩).run [] s5 _ H' _ S5 (yes rfl a na)
          refine wpAny_mono went (fun f s6 out => ?_) (fun _ _ z => z.elim)
          have behind : ∀ {σ6 : L2.St} {H6 : Hp} {Q : Shared → Prop}, Inv (X.suite a ((a, oe4) :: (X.pn ++ pins))) [] σ6 H6 s6 → (∀ s7, Inv X pins (σ6.set i none) H6 s7 → Q s7) →
              wpAny (model X.prog X.w) X.A (do bindName X.env n .none; unbindBehindTheSuite X.env n q) (fun _ s7 => Q s7) X.xe s6 := fun S6 k => gone_ok (S6.unsuite ok) hN hi hln k
          cases f with
          | ret u =>
            obtain ⟨v6, σ6, H6, S6, r6, q6⟩ := out
            exact behind S6 fun s7 J7 => ⟨_, _, _, J7, r6, q6⟩
          | next =>
            obtain ⟨σ6, H6, S6, q6⟩ := out
            exact behind S6 fun s7 J7 => ⟨_, _, J7, q6⟩
          | brk =>
            obtain ⟨σ6, H6, S6, q6⟩ := out
            exact behind S6 fun s7 J7 => ⟨_, _, J7, q6⟩
          | cont =>
            obtain ⟨σ6, H6, S6, q6⟩ := out
            exact behind S6 fun s7 J7 => ⟨_, _, J7, q6⟩
    exact go hh wish
  · intro f s1 out
    cases f with
    | ret u =>
      obtain ⟨v, σ2, H2, J2, r2, q2⟩ := out
      exact ⟨v, σ2, H2, J2.ofTry ok, r2, q2⟩
    | next =>
      obtain ⟨σ2, H2, J2, q2⟩ := out
      exact wpAny_execs_nil ⟨σ2, H2, J2.ofTry ok, q2⟩
    | brk =>
      obtain ⟨σ2, H2, J2, q2⟩ := out
      exact ⟨σ2, H2, J2.ofTry ok, q2⟩
    | cont =>
      obtain ⟨σ2, H2, J2, q2⟩ := out
      exact ⟨σ2, H2, J2.ofTry ok, q2⟩
end
end Rd
namespace Rd
open PySem PySem.Spec L2 PyProof.Rows
/-- the own == of the class at C -/
structure EqOk (P : Program) (w : World) (K : PySem.W.Frag) (mg : Str → Option Value) (base : Heap) (CX : CXT) (C : Addr) (k : Nat) (ps : List Str) (sp : Sp) : Prop where
  ok : ∃ f fd, PySem.W.findIn K (.ref C) "__eq__" = some (some (.ref f)) ∧ PySem.W.isFn K (.ref f) = true ∧ FnOk P w K mg base CX k f fd ps sp ∧ Binds K fd ps []
def rInsEq (C : Addr) (sp : Sp) (E : XK) : R2 := fun x y H Q => ∃ a dx fs b dy gs, x = .ref a ∧ y = .ref b ∧ H a = some (.ins C dx fs) ∧ H b = some (.ins C dy gs) ∧ sp [x, y] H Q E
theorem op_insEq {X : Cx} {CX : CXT} {C : Addr} {k : Nat} {ps : List Str} {sp : Sp} {E : XK} (M : EqOk X.prog X.w X.K X.mg X.base CX C k ps sp) (hr : Room k X.A) (hx : Passes CX X E) : OpR X (compareOp .Eq) (rInsEq C sp E) := by
  intro pins s σ H x y v u Q I rx ry ⟨a, dx, fs, b, dy, gs, ex, ey, ha, hb, q⟩
  obtain ⟨f, fd, find, fn, F, bi⟩ := M.ok
  subst ex ey
  obtain rfl : v = Value.ref a := rx
  obtain rfl : u = Value.ref b := ry
  obtain ⟨_, ja, _⟩ := ins_get I.hok ha
  obtain ⟨_, jb, _⟩ := ins_get I.hok hb
  obtain ⟨_, la, _⟩ := ja.look
  obtain ⟨_, lb, _⟩ := jb.look
  obtain ⟨_, fr⟩ := I.fr
  show wpAny _ X.A (richCompare .Eq (.ref a) (.ref b)) _ _ _
  refine PySem.W.cmp_K (op := .Eq) (tb := .ref C) hr.units0 fr I.ok.mod.kin la lb.type (by simp [PySem.W.notFirst]) find fn ?_
  refine wpAny_mono (run_fn (us := [.ref a, .ref b]) (vs := [.ref a, .ref b]) F hr bi .nil hx I (.cons rfl (.cons rfl .nil)) q) ?_ (fun _ _ z => z)
  rintro w2 s2 ⟨z, H2, I2, rz, qz⟩
  exact SlX.cmpback rz ⟨z, H2, I2, rz, qz⟩
end Rd

set_option linter.all false
namespace GT
/-- congruent modulo n -/
def Cg (n a b : Int) : Prop := ∃ q, a = b + n * q
section
variable {n a b c d : Int}
theorem Cg.refl (n a : Int) : Cg n a a := ⟨0, by grind⟩
theorem Cg.symm (h : Cg n a b) : Cg n b a := by obtain ⟨q, h⟩ := h; exact ⟨-q, by grind⟩
theorem Cg.trans (h : Cg n a b) (h2 : Cg n b c) : Cg n a c := by obtain ⟨q, h⟩ := h; obtain ⟨q2, h2⟩ := h2; exact ⟨q + q2, by grind⟩
theorem Cg.add (h : Cg n a b) (h2 : Cg n c d) : Cg n (a + c) (b + d) := by obtain ⟨q, h⟩ := h; obtain ⟨q2, h2⟩ := h2; exact ⟨q + q2, by grind⟩
theorem Cg.mul (h : Cg n a b) (h2 : Cg n c d) : Cg n (a * c) (b * d) := by obtain ⟨q, h⟩ := h; obtain ⟨q2, h2⟩ := h2; exact ⟨q * d + b * q2 + n * q * q2, by grind⟩
theorem Cg.mod (n a : Int) : Cg n (a % n) a := ⟨-(a / n), by have := Int.emod_add_mul_ediv a n; grind⟩
theorem Cg.eq (h : Cg n a b) : a % n = b % n := by obtain ⟨q, rfl⟩ := h; exact Int.add_mul_emod_self_left ..
theorem Cg.of (h : a % n = b % n) : Cg n a b := ((Cg.mod n a).symm).trans ((h ▸ Cg.mod n b : Cg n (a % n) b))
theorem Cg.small (h : Cg n a b) (h0 : 0 ≤ b) (h1 : b < n) : a % n = b := h.eq.trans (Int.emod_eq_of_lt h0 h1)
end
theorem pwm_cg (b n : Int) (k : Nat) : Cg n (pwm b n (k + 1)) (pwm b n k * b) := Cg.mod _ _
theorem pwm_add (b n : Int) (i : Nat) : ∀ j, Cg n (pwm b n (i + j)) (pwm b n i * pwm b n j)
  | 0 => by
    have h := (Cg.refl n (pwm b n i)).mul (Cg.mod n 1).symm
    rw [Int.mul_one] at h; exact h
  | j + 1 => by
    have h1 : Cg n (pwm b n (i + j + 1)) (pwm b n (i + j) * b) := pwm_cg b n (i + j)
    have h2 := (pwm_add b n i j).mul (Cg.refl n b)
    have h3 := (Cg.refl n (pwm b n i)).mul (pwm_cg b n j).symm
    rw [← Int.mul_assoc] at h3
    exact h1.trans (h2.trans h3)
namespace MetaOk
variable {n m k r s : Int} (M : MetaOk n m k r s)
include M
theorem pmul (q : Nat) : Cg n (pwm r n (m.toNat * q)) 1 := by
  induction q with
  | zero => exact Cg.mod n 1
  | succ q ih =>
    rw [Nat.mul_succ]
    refine (pwm_add r n _ _).trans ?_
    have h : Cg n (pwm r n m.toNat) 1 := by rw [M.one]; exact Cg.mod n 1
    have := ih.mul h
    rw [Int.mul_one] at this; exact this
theorem pmod (i : Nat) : Cg n (pwm r n (i % m.toNat)) (pwm r n i) := by
  have h := pwm_add r n (i % m.toNat) (m.toNat * (i / m.toNat))
  rw [Nat.mod_add_div] at h
  have h2 := (Cg.refl n (pwm r n (i % m.toNat))).mul (M.pmul (i / m.toNat))
  rw [Int.mul_one] at h2
  exact (h.trans h2).symm
theorem pfix (i : Nat) : Cg n (pwm r n i * s) s := by
  have rs : Cg n (r * s) s := by
    have h : Cg n ((r - 1) * s) 0 := Cg.of (by rw [M.fix, Int.zero_emod])
    have := h.add (Cg.refl n s)
    rw [Int.zero_add, show (r - 1) * s + s = r * s by grind] at this; exact this
  induction i with
  | zero => have := (Cg.mod n 1).mul (Cg.refl n s); rw [Int.one_mul] at this; exact this
  | succ i ih =>
    have h := (pwm_cg r n i).mul (Cg.refl n s)
    rw [Int.mul_assoc] at h
    exact h.trans (((Cg.refl n _).mul rs).trans ih)
theorem dec {u v c : Int} (v0 : 0 ≤ v) (v1 : v < m) (c0 : 0 ≤ c) (c1 : c < k) :
    ((u * m + v) * k + c) / (m * k) = u ∧ ((u * m + v) * k + c) / k % m = v ∧ ((u * m + v) * k + c) % k = c := by
  have m1 := M.m1
  have k1 := M.k1
  have e1 : ((u * m + v) * k + c) / k = u * m + v := by
    rw [Int.add_comm, Int.add_mul_ediv_right _ _ (by omega), Int.ediv_eq_zero_of_lt c0 c1, Int.zero_add]
  have e2 : (u * m + v) / m = u := by
    rw [Int.add_comm, Int.add_mul_ediv_right _ _ (by omega), Int.ediv_eq_zero_of_lt v0 v1, Int.zero_add]
  refine ⟨?_, ?_, ?_⟩
  · rw [Int.mul_comm m k, ← Int.ediv_ediv_of_nonneg (by omega : 0 ≤ k), e1, e2]
  · rw [e1, Int.add_comm, Int.add_mul_emod_self_right, Int.emod_eq_of_lt v0 v1]
  · rw [Int.add_comm, Int.add_mul_emod_self_right, Int.emod_eq_of_lt c0 c1]
theorem enc (y : Int) : (y / (m * k) * m + y / k % m) * k + y % k = y := by
  have k1 := M.k1
  have h1 := Int.emod_add_mul_ediv y k
  have h2 := Int.emod_add_mul_ediv (y / k) m
  rw [Int.mul_comm m k, ← Int.ediv_ediv_of_nonneg (by omega : 0 ≤ k)]
  grind
/-- the carry -/
abbrev ca (m x y : Int) : Int := if m ≤ x + y then 1 else 0
theorem eq (x y : Int) : metaE n m k r s x y = ((x / (m * k) + pwm r n (x / k % m).toNat * (y / (m * k)) + ca m (x / k % m) (y / k % m) * s) % n * m + (x / k % m + y / k % m) % m) * k + (x + y) % k := by
  unfold metaE ca
  simp only []
  split
  · rw [Int.one_mul]
  · rw [Int.zero_mul, Int.add_zero]
theorem comps (x y : Int) : metaE n m k r s x y / (m * k) = (x / (m * k) + pwm r n (x / k % m).toNat * (y / (m * k)) + ca m (x / k % m) (y / k % m) * s) % n ∧ metaE n m k r s x y / k % m = (x / k % m + y / k % m) % m ∧ metaE n m k r s x y % k = (x + y) % k := by
  have m1 := M.m1
  have k1 := M.k1
  rw [M.eq]
  exact M.dec (Int.emod_nonneg _ (by omega)) (Int.emod_lt_of_pos _ (by omega)) (Int.emod_nonneg _ (by omega)) (Int.emod_lt_of_pos _ (by omega))
theorem assoc (x y z : Int) : metaE n m k r s (metaE n m k r s x y) z = metaE n m k r s x (metaE n m k r s y z) := by
  have m1 := M.m1
  rw [M.eq (metaE n m k r s x y) z, M.eq x (metaE n m k r s y z)]
  obtain ⟨a1, b1, c1⟩ := M.comps x y
  obtain ⟨a2, b2, c2⟩ := M.comps y z
  have hc : (metaE n m k r s x y + z) % k = (x + metaE n m k r s y z) % k :=
    ((Cg.of c1 : Cg k _ (x + y)).add (Cg.refl k z)).trans ((by rw [Int.add_assoc]; exact ((Cg.refl k x).add (Cg.of c2)).symm : Cg k (x + y + z) _)) |>.eq
  rw [hc, a1, b1, a2, b2]
  have bx := Int.emod_nonneg (x / k) (by omega : m ≠ 0)
  have by_ := Int.emod_nonneg (y / k) (by omega : m ≠ 0)
  have bz := Int.emod_nonneg (z / k) (by omega : m ≠ 0)
  have bx' := Int.emod_lt_of_pos (x / k) (by omega : 0 < m)
  have by' := Int.emod_lt_of_pos (y / k) (by omega : 0 < m)
  have bz' := Int.emod_lt_of_pos (z / k) (by omega : 0 < m)
  generalize x / k % m = X at bx bx' ⊢
  generalize y / k % m = Y at by_ by' ⊢
  generalize z / k % m = Z at bz bz' ⊢
  generalize x / (m * k) = A
  generalize y / (m * k) = B
  generalize z / (m * k) = C
  have hb : ((X + Y) % m + Z) % m = (X + (Y + Z) % m) % m := by
    refine (((Cg.mod m (X + Y)).add (Cg.refl m Z)).trans ?_).eq
    rw [Int.add_assoc]
    exact ((Cg.refl m X).add (Cg.mod m (Y + Z))).symm
  rw [hb]
  have mod1 : (X + Y) % m = X + Y - ca m X Y * m := by
    unfold ca
    split
    · rw [← Int.emod_eq_of_lt (by omega : 0 ≤ X + Y - 1 * m) (by omega : X + Y - 1 * m < m)]
      exact Cg.eq ⟨1, by grind⟩
    · rw [Int.emod_eq_of_lt (by omega) (by omega)]; omega
  have mod2 : (Y + Z) % m = Y + Z - ca m Y Z * m := by
    unfold ca
    split
    · rw [← Int.emod_eq_of_lt (by omega : 0 ≤ Y + Z - 1 * m) (by omega : Y + Z - 1 * m < m)]
      exact Cg.eq ⟨1, by grind⟩
    · rw [Int.emod_eq_of_lt (by omega) (by omega)]; omega
  have car : ca m X Y + ca m ((X + Y) % m) Z = ca m Y Z + ca m X ((Y + Z) % m) := by
    rw [mod1, mod2]
    unfold ca
    repeat' split
    all_goals omega
  have pw : Cg n (pwm r n ((X + Y) % m).toNat) (pwm r n X.toNat * pwm r n Y.toNat) := by
    have e : ((X + Y) % m).toNat = (X.toNat + Y.toNat) % m.toNat := by
      have : (((X + Y) % m).toNat : Int) = (((X.toNat + Y.toNat) % m.toNat : Nat) : Int) := by
        rw [Int.toNat_of_nonneg (Int.emod_nonneg _ (by omega)), Int.natCast_emod, Int.natCast_add, Int.toNat_of_nonneg bx, Int.toNat_of_nonneg by_, Int.toNat_of_nonneg (by omega)]
      omega
    rw [e]
    exact (M.pmod _).trans (pwm_add r n _ _)
  refine congrArg (fun u => (u * m + (X + (Y + Z) % m) % m) * k + (x + metaE n m k r s y z) % k) (Cg.eq ?_)
  have l1 : Cg n ((A + pwm r n X.toNat * B + ca m X Y * s) % n) (A + pwm r n X.toNat * B + ca m X Y * s) := Cg.mod _ _
  have l2 := ((l1.add (pw.mul (Cg.refl n C))).add (Cg.refl n (ca m ((X + Y) % m) Z * s)))
  refine l2.trans ?_
  have q1 : Cg n ((B + pwm r n Y.toNat * C + ca m Y Z * s) % n) (B + pwm r n Y.toNat * C + ca m Y Z * s) := Cg.mod _ _
  have q2 := (((Cg.refl n A).add ((Cg.refl n (pwm r n X.toNat)).mul q1)).add (Cg.refl n (ca m X ((Y + Z) % m) * s)))
  refine Cg.trans ?_ q2.symm
  have f := (M.pfix X.toNat).mul (Cg.refl n (ca m Y Z))
  obtain ⟨w, hw⟩ := f
  refine ⟨-w, ?_⟩
  generalize ca m X Y = c1 at *
  generalize ca m ((X + Y) % m) Z = c2 at *
  generalize ca m Y Z = c3 at *
  generalize ca m X ((Y + Z) % m) = c4 at *
  grind
theorem zero_l {y : Int} (y0 : 0 ≤ y) (y1 : y < n * m * k) : metaE n m k r s 0 y = y := by
  have m1 := M.m1
  have k1 := M.k1
  rw [M.eq, Int.zero_ediv, Int.zero_ediv, Int.zero_emod]
  have by_ := Int.emod_nonneg (y / k) (by omega : m ≠ 0)
  have by' := Int.emod_lt_of_pos (y / k) (by omega : 0 < m)
  have a0 : 0 ≤ y / (m * k) := Int.ediv_nonneg y0 (Int.mul_nonneg (by omega) (by omega))
  have a1 : y / (m * k) < n := Int.ediv_lt_of_lt_mul (Int.mul_pos (by omega) (by omega)) (by rw [← Int.mul_assoc]; exact y1)
  have hca : ca m 0 (y / k % m) = 0 := if_neg (by omega)
  have h : Cg n (0 + pwm r n (0 : Int).toNat * (y / (m * k)) + 0 * s) (y / (m * k)) := by
    have := (Cg.mod n 1).mul (Cg.refl n (y / (m * k)))
    rw [Int.one_mul] at this
    have e : 0 + pwm r n (0 : Int).toNat * (y / (m * k)) + 0 * s = 1 % n * (y / (m * k)) := by
      show 0 + 1 % n * (y / (m * k)) + 0 * s = _
      grind
    rw [e]; exact this
  rw [hca, h.small a0 a1, Int.zero_add, Int.zero_add, Int.emod_emod, M.enc]
theorem zero_r {x : Int} (x0 : 0 ≤ x) (x1 : x < n * m * k) : metaE n m k r s x 0 = x := by
  have m1 := M.m1
  have k1 := M.k1
  rw [M.eq, Int.zero_ediv, Int.zero_ediv, Int.zero_emod]
  have bx := Int.emod_nonneg (x / k) (by omega : m ≠ 0)
  have bx' := Int.emod_lt_of_pos (x / k) (by omega : 0 < m)
  have a0 : 0 ≤ x / (m * k) := Int.ediv_nonneg x0 (Int.mul_nonneg (by omega) (by omega))
  have a1 : x / (m * k) < n := Int.ediv_lt_of_lt_mul (Int.mul_pos (by omega) (by omega)) (by rw [← Int.mul_assoc]; exact x1)
  have hca : ca m (x / k % m) 0 = 0 := if_neg (by omega)
  rw [hca, Int.mul_zero, Int.add_zero, Int.zero_mul, Int.add_zero, Int.emod_eq_of_lt a0 a1, Int.add_zero, Int.add_zero, Int.emod_emod, M.enc]
theorem inv_ex (x : Int) : ∃ y, 0 ≤ y ∧ y < n * m * k ∧ metaE n m k r s x y = 0 := by
  have n1 := M.n1
  have m1 := M.m1
  have k1 := M.k1
  have bx := Int.emod_nonneg (x / k) (by omega : m ≠ 0)
  have bx' := Int.emod_lt_of_pos (x / k) (by omega : 0 < m)
  generalize hX : x / k % m = X at bx bx'
  generalize hA : x / (m * k) = A
  have v0 := Int.emod_nonneg (-X) (by omega : m ≠ 0)
  have v1 := Int.emod_lt_of_pos (-X) (by omega : 0 < m)
  have c0 := Int.emod_nonneg (-x) (by omega : k ≠ 0)
  have c1 := Int.emod_lt_of_pos (-x) (by omega : 0 < k)
  obtain ⟨V, hV⟩ : ∃ V, V = (-X) % m := ⟨_, rfl⟩
  obtain ⟨U, hU⟩ : ∃ U, U = (-(A + ca m X V * s) * pwm r n V.toNat) % n := ⟨_, rfl⟩
  have u0 : 0 ≤ U := by rw [hU]; exact Int.emod_nonneg _ (by omega)
  have u1 : U < n := by rw [hU]; exact Int.emod_lt_of_pos _ (by omega)
  rw [← hV] at v0 v1
  refine ⟨(U * m + V) * k + (-x) % k, ?_, ?_, ?_⟩
  · exact (pack_lt (pack_lt u0 u1 v0 v1).1 (pack_lt u0 u1 v0 v1).2 c0 c1).1
  · exact (pack_lt (pack_lt u0 u1 v0 v1).1 (pack_lt u0 u1 v0 v1).2 c0 c1).2
  · obtain ⟨d1, d2, d3⟩ := M.dec (u := U) v0 v1 c0 c1
    rw [M.eq, d1, d2, hX, hA]
    have hb : (X + V) % m = 0 := by
      have : Cg m (X + V) 0 := by
        have := (Cg.refl m X).add (Cg.mod m (-X))
        rw [← hV, Int.add_right_neg] at this; exact this
      rw [this.eq, Int.zero_emod]
    have hc : (x + ((U * m + V) * k + (-x) % k)) % k = 0 := by
      have h : Cg k ((U * m + V) * k + (-x) % k) (-x) := (Cg.of (d3.trans (Int.emod_emod ..).symm) : Cg k _ ((-x) % k)).trans (Cg.mod k (-x))
      have := (Cg.refl k x).add h
      rw [Int.add_right_neg] at this
      rw [this.eq, Int.zero_emod]
    have pw : Cg n (pwm r n X.toNat * pwm r n V.toNat) 1 := by
      have h := (pwm_add r n X.toNat V.toNat).symm
      have e : (X.toNat + V.toNat) % m.toNat = 0 := by
        have : (((X.toNat + V.toNat) % m.toNat : Nat) : Int) = 0 := by
          rw [Int.natCast_emod, Int.natCast_add, Int.toNat_of_nonneg bx, Int.toNat_of_nonneg v0, Int.toNat_of_nonneg (by omega), hb]
        omega
      have h2 := M.pmod (X.toNat + V.toNat)
      rw [e] at h2
      exact h.trans (h2.symm.trans (Cg.mod n 1))
    have ha : (A + pwm r n X.toNat * U + ca m X V * s) % n = 0 := by
      have h1 : Cg n U (-(A + ca m X V * s) * pwm r n V.toNat) := by rw [hU]; exact Cg.mod _ _
      have h2 := (Cg.refl n (pwm r n X.toNat)).mul h1
      obtain ⟨w, hw⟩ := h2
      obtain ⟨z, hz⟩ := pw
      have : Cg n (A + pwm r n X.toNat * U + ca m X V * s) 0 := by
        refine ⟨w - z * (A + ca m X V * s), ?_⟩
        generalize ca m X V = c at *
        grind
      rw [this.eq, Int.zero_emod]
    rw [ha, hb, hc, Int.zero_mul, Int.zero_add, Int.zero_mul, Int.zero_add]
end MetaOk
theorem metaT_at {n m k r s : Int} {x y : Nat} (hx : x < (n * m * k).toNat) (hy : y < (n * m * k).toNat) : at2 (metaT n m k r s) x y = metaE n m k r s x y := by
  refine at2_of (r := (List.range (n * m * k).toNat).map fun y => metaE n m k r s (x : Nat) (y : Nat)) ?_ ?_
  · unfold metaT; rw [List.getElem?_map, List.getElem?_range hx]; rfl
  · rw [List.getElem?_map, List.getElem?_range hy]; rfl
theorem MetaOk.grp {n m k r s : Int} (M : MetaOk n m k r s) : Grp (metaT n m k r s) := by
  have l : (metaT n m k r s).length = (n * m * k).toNat := by unfold metaT; rw [List.length_map, List.length_range]
  have rg : ∀ x y : Int, 0 ≤ metaE n m k r s x y ∧ metaE n m k r s x y < n * m * k := fun x y => metaE_range M.n1 M.m1 M.k1
  refine ⟨M.sq.1, fun x hx => ?_, fun q hq => ?_, fun x y z hx hy hz => ?_⟩
  · rw [l] at hx
    rw [metaT_at (by omega) hx, metaT_at hx (by omega)]
    exact ⟨M.zero_l (by omega) (by omega), M.zero_r (by omega) (by omega)⟩
  · unfold metaT at hq
    obtain ⟨x, _, rfl⟩ := List.mem_map.mp hq
    obtain ⟨y, y0, y1, e⟩ := M.inv_ex x
    refine List.mem_map.mpr ⟨y.toNat, List.mem_range.mpr (by omega), ?_⟩
    rw [Int.toNat_of_nonneg y0, e]
  · rw [l] at hx hy hz
    obtain ⟨a0, a1⟩ := rg x y
    obtain ⟨b0, b1⟩ := rg y z
    rw [metaT_at hx hy, metaT_at hy hz, metaT_at (by omega) hz, metaT_at hx (by omega), Int.toNat_of_nonneg a0, Int.toNat_of_nonneg b0]
    exact M.assoc _ _ _
end GT

set_option linter.all false
set_option maxRecDepth 100000
namespace GT
theorem p4_inv : ∀ p ∈ perms4, ∃ q ∈ perms4, comp p q = id4 := by decide +kernel
theorem p4_least : ∀ p ∈ perms4, p = id4 ∨ Rs.ltL id4 p = true := by decide +kernel
namespace PermOk
variable {fs : List (List Int)} (O : PermOk fs)
include O
theorem inj {q q' p : List Int} (hq : q ∈ perms4) (hq' : q' ∈ perms4) (hp : p ∈ perms4) (h : comp q p = comp q' p) : q = q' := by
  obtain ⟨z, hz, e⟩ := p4_inv p hp
  have h1 : comp (comp q p) z = comp (comp q' p) z := congrArg (fun w => comp w z) h
  rw [comp_assoc (p4_rng p hp).1 (p4_rng z hz).2, comp_assoc (p4_rng p hp).1 (p4_rng z hz).2, e, (p4_one q hq).2, (p4_one q' hq').2] at h1
  exact h1
theorem zero : fs[0]? = some id4 := by
  have pos := List.length_pos_of_mem O.one
  rw [List.getElem?_eq_getElem pos]
  obtain ⟨j, hj, e⟩ := List.getElem_of_mem O.one
  by_cases c : j = 0
  · subst c; exact congrArg some e
  · have h := (List.pairwise_iff_getElem.mp O.asc) 0 j pos hj (by omega)
    rw [e] at h
    rcases p4_least _ (O.p4 _ (List.getElem_mem pos)) with h2 | h2
    · exact congrArg some h2
    · rw [h2] at h; cases h
theorem at_ {x y : Nat} (hx : x < fs.length) (hy : y < fs.length) : at2 (permT fs) x y = (fs.idxOf (comp fs[y] fs[x]) : Nat) := by
  refine at2_of (r := fs.map fun q => ((fs.idxOf (comp q fs[x]) : Nat) : Int)) ?_ ?_
  · unfold permT; rw [List.getElem?_map, List.getElem?_eq_getElem hx]; rfl
  · rw [List.getElem?_map, List.getElem?_eq_getElem hy]; rfl
theorem get_ {x y : Nat} (hx : x < fs.length) (hy : y < fs.length) : ∃ h : (at2 (permT fs) x y).toNat < fs.length, fs[(at2 (permT fs) x y).toNat] = comp fs[y] fs[x] := by
  have m := O.cl fs[y] (List.getElem_mem hy) fs[x] (List.getElem_mem hx)
  have l := List.idxOf_lt_length_of_mem m
  have e : (at2 (permT fs) x y).toNat = fs.idxOf (comp fs[y] fs[x]) := by rw [O.at_ hx hy]; rfl
  refine ⟨by rw [e]; exact l, ?_⟩
  have h1 : fs[(at2 (permT fs) x y).toNat]? = fs[fs.idxOf (comp fs[y] fs[x])]? := by rw [e]
  rw [List.getElem?_eq_getElem (by rw [e]; exact l), List.getElem?_eq_getElem l] at h1
  exact (Option.some.inj h1).trans (List.getElem_idxOf l)
theorem grp : Grp (permT fs) := by
  have l := O.sq.2
  have p4 := fun x (hx : x < fs.length) => O.p4 fs[x] (List.getElem_mem hx)
  have pos := List.length_pos_of_mem O.one
  have z0 : fs[0] = id4 := by
    have h := O.zero
    rw [List.getElem?_eq_getElem pos] at h
    exact Option.some.inj h
  refine ⟨O.sq.1, fun x hx => ?_, fun r hr => ?_, fun x y z hx hy hz => ?_⟩
  · rw [l] at hx
    rw [O.at_ pos hx, O.at_ hx pos, z0, (p4_one _ (p4 x hx)).1, (p4_one _ (p4 x hx)).2, O.nd.idxOf_getElem x hx]
    exact ⟨rfl, rfl⟩
  · unfold permT at hr
    obtain ⟨p, hp, rfl⟩ := List.mem_map.mp hr
    have nd : (fs.map fun q => comp q p).Nodup := by
      rw [List.Nodup, List.pairwise_map]
      refine O.nd.imp_of_mem fun {a b} ha hb n e => n (O.inj (O.p4 a ha) (O.p4 b hb) (O.p4 p hp) e)
    have m : id4 ∈ fs.map fun q => comp q p := by
      apply Classical.byContradiction
      intro no
      have := (List.nodup_cons.mpr ⟨no, nd⟩).length_le_of_subset (l₂ := fs) (fun z hz => by
        rcases List.mem_cons.mp hz with h | h
        · rw [h]; exact O.one
        · obtain ⟨q, hq, rfl⟩ := List.mem_map.mp h
          exact O.cl q hq p hp)
      rw [List.length_cons, List.length_map] at this
      omega
    obtain ⟨q, hq, e⟩ := List.mem_map.mp m
    refine List.mem_map.mpr ⟨q, hq, ?_⟩
    have e' : comp q p = id4 := e
    rw [e', ← z0, O.nd.idxOf_getElem 0 pos]; rfl
  · rw [l] at hx hy hz
    obtain ⟨h1, e1⟩ := O.get_ hx hy
    obtain ⟨h2, e2⟩ := O.get_ hy hz
    rw [O.at_ h1 hz, O.at_ hx h2, e1, e2, comp_assoc (p4_rng _ (p4 y hy)).1 (p4_rng _ (p4 x hx)).2]
end PermOk
theorem Ren.grp {t u : List (List Int)} {ns : List Int} (R : Ren t ns u) (G : Grp t) : Grp u := by
  have N := R.nms
  have on : ∀ i, i < u.length → ∃ x, x < t.length ∧ nm ns x = i := fun i hi => by
    obtain ⟨x, hx, ex⟩ := N.onto (k := i) (by rw [← R.len]; exact hi)
    refine ⟨x, hx, ?_⟩
    have := (N.at_ hx).1
    rw [ex] at this
    have := Option.some.inj this
    omega
  have z0 : nm ns 0 = 0 := by
    have := (N.at_ G.sq.pos).1
    rw [N.zero G.sq.pos] at this
    have := Option.some.inj this
    omega
  have ml : ∀ {x y}, x < t.length → y < t.length → mul t x y < t.length := fun hx hy => G.sq.mul_lt hx hy
  have at_ : ∀ x y, x < t.length → y < t.length → at2 u (nm ns x) (nm ns y) = (nm ns (mul t x y) : Int) := R.at_
  refine ⟨R.sq G.sq, fun i hi => ?_, fun r hr => ?_, fun i j k hi hj hk => ?_⟩
  · obtain ⟨x, hx, rfl⟩ := on i hi
    have a := at_ 0 x G.sq.pos hx
    have b := at_ x 0 hx G.sq.pos
    rw [z0] at a b
    have e1 : mul t 0 x = x := by unfold mul; rw [(G.idn x hx).1]; rfl
    have e2 : mul t x 0 = x := by unfold mul; rw [(G.idn x hx).2]; rfl
    rw [e1] at a; rw [e2] at b
    exact ⟨a, b⟩
  · obtain ⟨i, hi, rfl⟩ := List.getElem_of_mem hr
    obtain ⟨x, hx, e⟩ := on i hi
    obtain ⟨r, h1, h2, h3, h4⟩ := G.sq.rowAt hx
    have hm := G.inv r (List.mem_of_getElem? h1)
    obtain ⟨y, hy, ey⟩ := List.getElem_of_mem hm
    have hy' : y < t.length := by rw [← h2]; exact hy
    have h5 : at2 t x y = 0 := at2_of h1 (by rw [List.getElem?_eq_getElem hy, ey])
    have h6 := at_ x y hx hy'
    have h7 : mul t x y = 0 := by unfold mul; rw [h5]; rfl
    rw [h7, z0, e] at h6
    have lu : nm ns y < (u[i]).length := by rw [R.row _ (List.getElem_mem hi)]; exact (N.at_ hy').2
    have h8 : at2 u i (nm ns y) = u[i][nm ns y] := at2_of (List.getElem?_eq_getElem hi) (List.getElem?_eq_getElem lu)
    rw [h8] at h6
    have h9 : u[i][nm ns y] = 0 := h6
    rw [← h9]
    exact List.getElem_mem lu
  · obtain ⟨x, hx, rfl⟩ := on i hi
    obtain ⟨y, hy, rfl⟩ := on j hj
    obtain ⟨z, hz, rfl⟩ := on k hk
    rw [at_ x y hx hy, at_ y z hy hz, Int.toNat_natCast, Int.toNat_natCast, at_ _ z (ml hx hy) hz, at_ x _ hx (ml hy hz)]
    have := G.asc x y z hx hy hz
    have e : mul t (mul t x y) z = mul t x (mul t y z) := congrArg Int.toNat this
    rw [e]
end GT

set_option linter.all false
set_option maxRecDepth 100000
namespace GT
/-! ### the table of an operation on a list -/
def tabOf {α : Type} [BEq α] (f : α → α → α) (l : List α) : List (List Int) := l.map fun x => l.map fun y => ((l.idxOf (f x y) : Nat) : Int)
section
variable {α : Type} [BEq α] [LawfulBEq α] {f : α → α → α} {l : List α}
theorem tabOf_len : (tabOf f l).length = l.length := by unfold tabOf; rw [List.length_map]
theorem tabOf_at {x y : Nat} (hx : x < l.length) (hy : y < l.length) : at2 (tabOf f l) x y = (l.idxOf (f l[x] l[y]) : Nat) := by
  refine at2_of (r := l.map fun q => ((l.idxOf (f l[x] q) : Nat) : Int)) ?_ ?_
  · unfold tabOf; rw [List.getElem?_map, List.getElem?_eq_getElem hx]; rfl
  · rw [List.getElem?_map, List.getElem?_eq_getElem hy]; rfl
theorem tabOf_sq (pos : 0 < l.length) (cl : ∀ x ∈ l, ∀ y ∈ l, f x y ∈ l) : Sq (tabOf f l) := by
  refine ⟨by rw [tabOf_len]; exact pos, fun r hr => ?_⟩
  rw [tabOf_len]
  unfold tabOf at hr
  obtain ⟨p, hp, rfl⟩ := List.mem_map.mp hr
  refine ⟨by rw [List.length_map], fun e he => ?_⟩
  obtain ⟨q, hq, rfl⟩ := List.mem_map.mp he
  have := List.idxOf_lt_length_of_mem (cl p hp q hq)
  omega
theorem tabOf_get (cl : ∀ x ∈ l, ∀ y ∈ l, f x y ∈ l) {x y : Nat} (hx : x < l.length) (hy : y < l.length) : ∃ h : (at2 (tabOf f l) x y).toNat < l.length, l[(at2 (tabOf f l) x y).toNat] = f l[x] l[y] := by
  have m := cl l[x] (List.getElem_mem hx) l[y] (List.getElem_mem hy)
  have lt := List.idxOf_lt_length_of_mem m
  have e : (at2 (tabOf f l) x y).toNat = l.idxOf (f l[x] l[y]) := by rw [tabOf_at hx hy]; rfl
  refine ⟨by rw [e]; exact lt, ?_⟩
  have h1 : l[(at2 (tabOf f l) x y).toNat]? = l[l.idxOf (f l[x] l[y])]? := by rw [e]
  rw [List.getElem?_eq_getElem (by rw [e]; exact lt), List.getElem?_eq_getElem lt] at h1
  exact (Option.some.inj h1).trans (List.getElem_idxOf lt)
theorem tabOf_grp (nd : l.Nodup) (cl : ∀ x ∈ l, ∀ y ∈ l, f x y ∈ l) {e : α} (h0 : l[0]? = some e) (ol : ∀ x ∈ l, f e x = x) (or_ : ∀ x ∈ l, f x e = x) (asc : ∀ x ∈ l, ∀ y ∈ l, ∀ z ∈ l, f (f x y) z = f x (f y z))
    (can : ∀ x ∈ l, ∀ y ∈ l, ∀ z ∈ l, f x y = f x z → y = z) : Grp (tabOf f l) := by
  obtain ⟨pos, z0⟩ := List.getElem?_eq_some_iff.mp h0
  have me : e ∈ l := z0 ▸ List.getElem_mem pos
  refine ⟨tabOf_sq pos cl, fun x hx => ?_, fun r hr => ?_, fun x y z hx hy hz => ?_⟩
  · rw [tabOf_len] at hx
    have mx := List.getElem_mem hx
    rw [tabOf_at pos hx, tabOf_at hx pos, z0, ol _ mx, or_ _ mx, nd.idxOf_getElem x hx]
    exact ⟨rfl, rfl⟩
  · unfold tabOf at hr
    obtain ⟨p, hp, rfl⟩ := List.mem_map.mp hr
    have nd2 : (l.map fun q => f p q).Nodup := by
      rw [List.Nodup, List.pairwise_map]
      exact nd.imp_of_mem fun {a b} ha hb n e => n (can p hp a ha b hb e)
    have m : e ∈ l.map fun q => f p q := by
      apply Classical.byContradiction
      intro no
      have := (List.nodup_cons.mpr ⟨no, nd2⟩).length_le_of_subset (l₂ := l) (fun z hz => by
        rcases List.mem_cons.mp hz with h | h
        · rw [h]; exact me
        · obtain ⟨q, hq, rfl⟩ := List.mem_map.mp h
          exact cl p hp q hq)
      rw [List.length_cons, List.length_map] at this
      omega
    obtain ⟨q, hq, e1⟩ := List.mem_map.mp m
    refine List.mem_map.mpr ⟨q, hq, ?_⟩
    rw [e1, ← z0, nd.idxOf_getElem 0 pos]; rfl
  · rw [tabOf_len] at hx hy hz
    obtain ⟨h1, e1⟩ := tabOf_get cl hx hy
    obtain ⟨h2, e2⟩ := tabOf_get cl hy hz
    rw [tabOf_at h1 hz, tabOf_at hx h2, e1, e2, asc _ (List.getElem_mem hx) _ (List.getElem_mem hy) _ (List.getElem_mem hz)]
theorem idxOf_map {β : Type} [BEq β] [LawfulBEq β] {φ : α → β} : ∀ {l : List α} {a : α}, (∀ x ∈ l, φ x = φ a → x = a) → (l.map φ).idxOf (φ a) = l.idxOf a
  | [], a, _ => rfl
  | b :: l, a, inj => by
    rw [List.map_cons, List.idxOf_cons, List.idxOf_cons]
    by_cases c : b = a
    · subst c
      rw [beq_self_eq_true, beq_self_eq_true]; rfl
    · have : φ b ≠ φ a := fun e => c (inj b List.mem_cons_self e)
      rw [beq_eq_false_iff_ne.mpr c, beq_eq_false_iff_ne.mpr this, idxOf_map fun x hx => inj x (List.mem_cons_of_mem _ hx)]
theorem tabOf_map {β : Type} [BEq β] [LawfulBEq β] {g : β → β → β} {φ : α → β} (inj : ∀ x ∈ l, ∀ y ∈ l, φ x = φ y → x = y) (hom : ∀ x ∈ l, ∀ y ∈ l, φ (f x y) = g (φ x) (φ y)) (cl : ∀ x ∈ l, ∀ y ∈ l, f x y ∈ l) : tabOf g (l.map φ) = tabOf f l := by
  unfold tabOf
  rw [List.map_map]
  refine List.map_congr_left fun x hx => ?_
  show (l.map φ).map _ = _
  rw [List.map_map]
  refine List.map_congr_left fun y hy => ?_
  show (((l.map φ).idxOf (g (φ x) (φ y)) : Nat) : Int) = _
  rw [← hom x hx y hy, idxOf_map fun z hz e => inj z hz _ (cl x hx y hy) e]
end
/-! ### subgroups -/
/-- product of ints -/
def mi (t : List (List Int)) (x y : Int) : Int := at2 t x.toNat y.toNat
def InT (t : List (List Int)) (x : Int) : Prop := 0 ≤ x ∧ x < (t.length : Int)
section
variable {t : List (List Int)} (G : Grp t) {ns ms : List Int}
include G
theorem Grp.mi_in {x y : Int} (hx : InT t x) (hy : InT t y) : InT t (mi t x y) := by
  obtain ⟨a, b, _⟩ := G.sq.at (x := x.toNat) (y := y.toNat) (by have := hx.1; have := hx.2; omega) (by have := hy.1; have := hy.2; omega)
  exact ⟨a, b⟩
theorem Grp.mi_assoc {x y z : Int} (hx : InT t x) (hy : InT t y) (hz : InT t z) : mi t (mi t x y) z = mi t x (mi t y z) :=
  G.asc x.toNat y.toNat z.toNat (by have := hx.1; have := hx.2; omega) (by have := hy.1; have := hy.2; omega) (by have := hz.1; have := hz.2; omega)
theorem Grp.mi_one {x : Int} (hx : InT t x) : mi t 0 x = x ∧ mi t x 0 = x := by
  have h := G.idn x.toNat (by have := hx.1; have := hx.2; omega)
  rw [Int.toNat_of_nonneg hx.1] at h
  exact h
theorem Grp.mi_zero : InT t 0 := ⟨Int.le_refl 0, by have := G.sq.pos; omega⟩
theorem Grp.mi_inv {x : Int} (hx : InT t x) : ∃ y, InT t y ∧ mi t x y = 0 ∧ mi t y x = 0 := by
  have hx' : x.toNat < t.length := by have := hx.1; have := hx.2; omega
  have h := G.inv_at hx'
  have h2 := G.inv_mul hx'
  refine ⟨(ivn t x.toNat : Nat), ⟨by omega, by have := h.1; omega⟩, ?_, ?_⟩
  · show at2 t x.toNat ((ivn t x.toNat : Nat) : Int).toNat = 0
    rw [Int.toNat_natCast, G.sq.mul_eq hx' h.1, h.2]; rfl
  · show at2 t ((ivn t x.toNat : Nat) : Int).toNat x.toNat = 0
    rw [Int.toNat_natCast, G.sq.mul_eq h.1 hx', h2]; rfl
theorem Grp.mi_lc {x y z : Int} (hx : InT t x) (hy : InT t y) (hz : InT t z) (e : mi t x y = mi t x z) : y = z := by
  obtain ⟨i, hi, _, h2⟩ := G.mi_inv hx
  have := congrArg (mi t i) e
  rw [← G.mi_assoc hi hx hy, ← G.mi_assoc hi hx hz, h2, (G.mi_one hy).1, (G.mi_one hz).1] at this
  exact this
theorem Grp.mi_rc {x y z : Int} (hx : InT t x) (hy : InT t y) (hz : InT t z) (e : mi t y x = mi t z x) : y = z := by
  obtain ⟨i, hi, h1, _⟩ := G.mi_inv hx
  have : mi t (mi t y x) i = mi t (mi t z x) i := congrArg (fun w => mi t w i) e
  rw [G.mi_assoc hy hx hi, G.mi_assoc hz hx hi, h1, (G.mi_one hy).2, (G.mi_one hz).2] at this
  exact this
theorem Grp.reach_in (hn : ∀ m ∈ ns, InT t m) {z : Int} (h : Reach t ns z) : InT t z := h.lt G.sq hn
theorem Grp.reach_mul (hn : ∀ m ∈ ns, InT t m) {x y : Int} (hx : Reach t ns x) (hy : Reach t ns y) : Reach t ns (mi t x y) := by
  induction hy with
  | zero => rw [(G.mi_one (G.reach_in hn hx)).2]; exact hx
  | @step y m r hm ih =>
    show Reach t ns (mi t x (mi t y m))
    rw [← G.mi_assoc (G.reach_in hn hx) (G.reach_in hn r) (hn m hm)]
    exact .step ih hm
/-- the list of a subgroup that is generated -/
structure SubG (t : List (List Int)) (ns ms : List Int) : Prop where
  gen : ∀ m ∈ ns, InT t m
  cl : Closed t ns ms
omit G in
theorem SubG.nd (S : SubG t ns ms) : ms.Nodup := S.cl.asc.imp fun h => Int.ne_of_lt h
theorem SubG.in_ (S : SubG t ns ms) : ∀ x ∈ ms, InT t x := fun x hx => G.reach_in S.gen ((S.cl.mem x).mp hx)
theorem SubG.mul (S : SubG t ns ms) : ∀ x ∈ ms, ∀ y ∈ ms, mi t x y ∈ ms := fun x hx y hy => (S.cl.mem _).mpr (G.reach_mul S.gen ((S.cl.mem x).mp hx) ((S.cl.mem y).mp hy))
theorem SubG.zero (S : SubG t ns ms) : ms[0]? = some 0 := by
  have m0 : (0 : Int) ∈ ms := (S.cl.mem 0).mpr .zero
  have pos := List.length_pos_of_mem m0
  rw [List.getElem?_eq_getElem pos]
  obtain ⟨j, hj, e⟩ := List.getElem_of_mem m0
  by_cases c : j = 0
  · subst c; exact congrArg some e
  · have h := (List.pairwise_iff_getElem.mp S.cl.asc) 0 j pos hj (by omega)
    have := (S.in_ G _ (List.getElem_mem pos)).1
    omega
theorem SubG.le (S : SubG t ns ms) : ms.length ≤ t.length := by
  have := S.nd.length_le_of_subset (l₂ := (List.range t.length).map fun i => ((i : Nat) : Int)) (fun z hz => by
    obtain ⟨a, b⟩ := S.in_ G z hz
    exact List.mem_map.mpr ⟨z.toNat, List.mem_range.mpr (by omega), by omega⟩)
  rw [List.length_map, List.length_range] at this
  exact this
theorem SubG.grp (S : SubG t ns ms) : Grp (tabOf (mi t) ms) :=
  tabOf_grp S.nd (S.mul G) (S.zero G) (fun x hx => (G.mi_one (S.in_ G x hx)).1) (fun x hx => (G.mi_one (S.in_ G x hx)).2) (fun x hx y hy z hz => G.mi_assoc (S.in_ G x hx) (S.in_ G y hy) (S.in_ G z hz))
    (fun x hx y hy z hz => G.mi_lc (S.in_ G x hx) (S.in_ G y hy) (S.in_ G z hz))
theorem SubG.grpT (S : SubG t ns ms) : Grp (tabOf (fun x y => mi t y x) ms) :=
  tabOf_grp S.nd (fun x hx y hy => S.mul G y hy x hx) (S.zero G) (fun x hx => (G.mi_one (S.in_ G x hx)).2) (fun x hx => (G.mi_one (S.in_ G x hx)).1) (fun x hx y hy z hz => (G.mi_assoc (S.in_ G z hz) (S.in_ G y hy) (S.in_ G x hx)).symm)
    (fun x hx y hy z hz => G.mi_rc (S.in_ G x hx) (S.in_ G y hy) (S.in_ G z hz))
end
end GT

set_option linter.all false
set_option maxRecDepth 100000
namespace GT
/-! ### words in lists, in order -/
inductive PReach (ps : List (List Int)) (e : List Int) : List Int → Prop
  | one : PReach ps e e
  | step {z p : List Int} : PReach ps e z → p ∈ ps → PReach ps e (comp p z)
structure PClosed (ps : List (List Int)) (e : List Int) (cs : List (List Int)) : Prop where
  asc : cs.Pairwise (fun x y => Rs.ltL x y = true)
  mem : ∀ z, z ∈ cs ↔ PReach ps e z
theorem ltL_tri : ∀ x y : List Int, Rs.ltL x y = false → Rs.ltL y x = false → x = y
  | [], [], _, _ => rfl
  | [], _ :: _, h, _ => by cases h
  | _ :: _, [], _, h => by cases h
  | a :: x, b :: y, h1, h2 => by
    have h1' : (if a = b then Rs.ltL x y else decide (a < b)) = false := h1
    have h2' : (if b = a then Rs.ltL y x else decide (b < a)) = false := h2
    by_cases e : a = b
    · rw [if_pos e] at h1'
      rw [if_pos e.symm] at h2'
      rw [e, ltL_tri x y h1' h2']
    · rw [if_neg e] at h1'
      rw [if_neg (fun q => e q.symm)] at h2'
      have := of_decide_eq_false h1'
      have := of_decide_eq_false h2'
      omega
theorem ltL_ne {x y : List Int} (h : Rs.ltL x y = true) : x ≠ y := fun e => by rw [e, Rs.ltL_irr] at h; cases h
theorem PClosed.nd {ps cs : List (List Int)} {e : List Int} (C : PClosed ps e cs) : cs.Nodup := C.asc.imp fun h => ltL_ne h
theorem PClosed.sorted {ps cs fs bs : List (List Int)} {e : List Int} (C : PClosed ps e cs) (nd : fs.Nodup) (m : ∀ z, z ∈ fs ↔ PReach ps e z) (p : bs.Perm fs) (s : bs.Pairwise fun x y => Rs.ltL y x = false) : bs = cs := by
  have nb : bs.Nodup := p.nodup_iff.mpr nd
  refine ((List.perm_ext_iff_of_nodup nb C.nd).mpr fun z => (p.mem_iff.trans (m z)).trans (C.mem z).symm).eq_of_pairwise (le := fun a b => Rs.ltL b a = false) (fun x y _ _ h3 h4 => ltL_tri x y h4 h3) s (C.asc.imp fun h => Rs.ltL_asym _ _ h)
/-- found so far -/
structure PGen (ps : List (List Int)) (e : List Int) (fs : List (List Int)) : Prop where
  nd : fs.Nodup
  re : ∀ z ∈ fs, PReach ps e z
  z0 : e ∈ fs
theorem PGen.start (ps : List (List Int)) (e : List Int) : PGen ps e [e] := ⟨by simp, fun z h => by rw [List.mem_singleton.mp h]; exact .one, by simp⟩
theorem PGen.add {ps fs : List (List Int)} {e z p : List Int} (F : PGen ps e fs) (hz : z ∈ fs) (hp : p ∈ ps) (no : comp p z ∉ fs) : PGen ps e (fs ++ [comp p z]) := by
  refine ⟨List.nodup_append.mpr ⟨F.nd, by simp, fun a ha b hb => ?_⟩, fun y hy => ?_, List.mem_append_left _ F.z0⟩
  · rw [List.mem_singleton.mp hb]
    intro e
    exact no (e ▸ ha)
  · rcases List.mem_append.mp hy with h | h
    · exact F.re y h
    · rw [List.mem_singleton.mp h]
      exact .step (F.re z hz) hp
theorem PGen.few {ps fs cs : List (List Int)} {e : List Int} (F : PGen ps e fs) (C : PClosed ps e cs) : fs.length ≤ cs.length := F.nd.length_le_of_subset fun z hz => (C.mem z).mpr (F.re z hz)
theorem PGen.room {ps fs cs : List (List Int)} {e z p : List Int} (F : PGen ps e fs) (C : PClosed ps e cs) (hz : z ∈ fs) (hp : p ∈ ps) (no : comp p z ∉ fs) : fs.length < cs.length := by
  have := (F.add hz hp no).few C
  rw [List.length_append, List.length_singleton] at this
  omega
theorem PGen.done {ps fs : List (List Int)} {e : List Int} (F : PGen ps e fs) (cl : ∀ z ∈ fs, ∀ p ∈ ps, comp p z ∈ fs) (z : List Int) : z ∈ fs ↔ PReach ps e z := by
  refine ⟨F.re z, fun h => ?_⟩
  induction h with
  | one => exact F.z0
  | step _ hp ih => exact cl _ ih _ hp
/-! ### widened lists -/
def rngI (n : Nat) : List Int := (List.range n).map fun i => ((i : Nat) : Int)
theorem rngI_len (n : Nat) : (rngI n).length = n := by unfold rngI; rw [List.length_map, List.length_range]
theorem rngI_get {n i : Nat} (h : i < n) : (rngI n)[i]? = some (i : Int) := by unfold rngI; rw [List.getElem?_map, List.getElem?_range h]; rfl
theorem rngI_mem {n : Nat} {x : Int} : x ∈ rngI n ↔ 0 ≤ x ∧ x < (n : Int) := by
  unfold rngI
  constructor
  · intro h
    obtain ⟨i, hi, rfl⟩ := List.mem_map.mp h
    have := List.mem_range.mp hi
    omega
  · rintro ⟨h0, h1⟩
    exact List.mem_map.mpr ⟨x.toNat, List.mem_range.mpr (by omega), by omega⟩
theorem rngI_add (a b : Nat) : rngI (a + b) = rngI a ++ (rngI b).map (· + (a : Int)) := by
  unfold rngI
  rw [List.range_add, List.map_append, List.map_map, List.map_map]
  congr 1
  refine List.map_congr_left fun i _ => ?_
  show ((a + i : Nat) : Int) = (i : Int) + (a : Int)
  omega
def widen (b h : Nat) (r : List Int) : List Int := rngI b ++ r.map (· + (b : Int)) ++ (rngI h).map (· + ((b + r.length : Nat) : Int))
theorem widen_len (b h : Nat) (r : List Int) : (widen b h r).length = b + r.length + h := by unfold widen; simp [rngI_len]; omega
theorem widen_lo {b h : Nat} {r : List Int} {i : Nat} (hi : i < b) : (widen b h r)[i]? = some (i : Int) := by
  unfold widen
  rw [List.append_assoc, List.getElem?_append_left (by rw [rngI_len]; exact hi), rngI_get hi]
theorem widen_mid {b h : Nat} {r : List Int} {i : Nat} {x : Int} (hx : r[i]? = some x) : (widen b h r)[b + i]? = some (x + (b : Int)) := by
  have hi := (List.getElem?_eq_some_iff.mp hx).1
  unfold widen
  rw [List.append_assoc, List.getElem?_append_right (by rw [rngI_len]; omega), rngI_len, List.getElem?_append_left (by rw [List.length_map]; omega), List.getElem?_map, show b + i - b = i by omega, hx]; rfl
theorem widen_hi {b h : Nat} {r : List Int} {i : Nat} (hi : i < h) : (widen b h r)[b + r.length + i]? = some ((b + r.length + i : Nat) : Int) := by
  unfold widen
  rw [List.getElem?_append_right (by rw [List.length_append, rngI_len, List.length_map]; omega), List.length_append, rngI_len, List.length_map, List.getElem?_map, show b + r.length + i - (b + r.length) = i by omega, rngI_get hi]
  show some ((i : Int) + ((b + r.length : Nat) : Int)) = _
  congr 1
  omega
theorem comp_widen {b h : Nat} {q p : List Int} (l : p.length = q.length) (rg : ∀ x ∈ p, 0 ≤ x ∧ x < (q.length : Int)) : comp (widen b h q) (widen b h p) = widen b h (comp q p) := by
  unfold comp
  conv => lhs; arg 2; unfold widen
  conv => rhs; unfold widen
  rw [List.map_append, List.map_append]
  have e1 : (rngI b).map (fun x => (widen b h q).getD x.toNat 0) = rngI b := by
    conv => rhs; rw [← List.map_id (rngI b)]
    refine List.map_congr_left fun x hx => ?_
    obtain ⟨h0, h1⟩ := rngI_mem.mp hx
    show (widen b h q).getD x.toNat 0 = x
    rw [getD_of (widen_lo (by omega))]
    omega
  have e2 : (p.map (· + (b : Int))).map (fun x => (widen b h q).getD x.toNat 0) = (p.map fun x => q.getD x.toNat 0).map (· + (b : Int)) := by
    rw [List.map_map, List.map_map]
    refine List.map_congr_left fun x hx => ?_
    obtain ⟨h0, h1⟩ := rg x hx
    show (widen b h q).getD (x + (b : Int)).toNat 0 = q.getD x.toNat 0 + (b : Int)
    have hq : q[x.toNat]? = some q[x.toNat] := List.getElem?_eq_getElem (by omega)
    rw [show (x + (b : Int)).toNat = b + x.toNat by omega, getD_of (widen_mid hq), getD_of hq]
  have e3 : ((rngI h).map (· + ((b + p.length : Nat) : Int))).map (fun x => (widen b h q).getD x.toNat 0) = (rngI h).map (· + ((b + (p.map fun x => q.getD x.toNat 0).length : Nat) : Int)) := by
    rw [List.map_map, List.length_map]
    refine List.map_congr_left fun x hx => ?_
    obtain ⟨h0, h1⟩ := rngI_mem.mp hx
    show (widen b h q).getD (x + ((b + p.length : Nat) : Int)).toNat 0 = x + ((b + p.length : Nat) : Int)
    rw [show (x + ((b + p.length : Nat) : Int)).toNat = b + q.length + x.toNat by omega, getD_of (widen_hi (by omega))]
    omega
  rw [e1, e2, e3]
theorem widen_rng (b n h : Nat) : widen b h (rngI n) = rngI (b + n + h) := by
  unfold widen
  rw [rngI_add (b + n) h, rngI_add b n, rngI_len]
theorem widen_perm {b h : Nat} {r : List Int} {n : Nat} (p : r.Perm (rngI n)) : (widen b h r).Perm (rngI (b + n + h)) := by
  have l := p.length_eq
  rw [rngI_len] at l
  rw [← widen_rng]
  unfold widen
  rw [rngI_len, l]
  exact ((List.Perm.refl _).append (p.map _)).append (List.Perm.refl _)
theorem ltL_pre (a : List Int) (x y : List Int) : Rs.ltL (a ++ x) (a ++ y) = Rs.ltL x y := by
  induction a with
  | nil => rfl
  | cons c a ih =>
    show (if c = c then Rs.ltL (a ++ x) (a ++ y) else _) = _
    rw [if_pos rfl]; exact ih
theorem ltL_widen {b h : Nat} {x y : Int} {r s : List Int} (lt : x < y) : Rs.ltL (widen b h (x :: r)) (widen b h (y :: s)) = true := by
  unfold widen
  rw [List.append_assoc, List.append_assoc, ltL_pre]
  show (if x + (b : Int) = y + (b : Int) then _ else decide (x + (b : Int) < y + (b : Int))) = true
  rw [if_neg (by omega), decide_eq_true (by omega)]
theorem widen_inj {b h : Nat} {x y : Int} {r s : List Int} (e : widen b h (x :: r) = widen b h (y :: s)) : x = y := by
  have h1 : (widen b h (x :: r))[b + 0]? = some (x + (b : Int)) := widen_mid (by rfl)
  have h2 : (widen b h (y :: s))[b + 0]? = some (y + (b : Int)) := widen_mid (by rfl)
  rw [e, h2] at h1
  have := Option.some.inj h1
  omega
theorem perm_rng {l : List Int} {n : Nat} (nd : l.Nodup) (len : l.length = n) (rg : ∀ x ∈ l, 0 ≤ x ∧ x < (n : Int)) : l.Perm (rngI n) := by
  have nr : (rngI n).Nodup := by
    unfold rngI
    rw [List.Nodup, List.pairwise_map]
    exact List.nodup_range.imp fun {a b} h e => h (by omega)
  refine (List.perm_ext_iff_of_nodup nd nr).mpr fun z => ⟨fun h => rngI_mem.mpr (rg z h), fun h => ?_⟩
  apply Classical.byContradiction
  intro no
  have := (List.nodup_cons.mpr ⟨no, nd⟩).length_le_of_subset (l₂ := rngI n) (fun w hw => by
    rcases List.mem_cons.mp hw with e | e
    · rw [e]; exact h
    · exact rngI_mem.mpr (rg w e))
  rw [List.length_cons, rngI_len, len] at this
  omega
/-! ### columns and rows -/
def colOf (t : List (List Int)) (y : Int) : List Int := (rngI t.length).map fun x => mi t x y
def rowOf (t : List (List Int)) (x : Int) : List Int := (rngI t.length).map fun y => mi t x y
section
variable {t : List (List Int)} (G : Grp t) {ns ms : List Int}
include G
theorem Grp.rngT {x : Int} (h : x ∈ rngI t.length) : InT t x := rngI_mem.mp h
theorem Grp.col_perm {y : Int} (hy : InT t y) : (colOf t y).Perm (rngI t.length) := by
  unfold colOf
  refine perm_rng ?_ (by rw [List.length_map, rngI_len]) fun z hz => ?_
  · rw [List.Nodup, List.pairwise_map]
    have nr : (rngI t.length).Nodup := by
      unfold rngI
      rw [List.Nodup, List.pairwise_map]
      exact List.nodup_range.imp fun {a b} h e => h (by omega)
    exact nr.imp_of_mem fun {a b} ha hb n e => n (G.mi_rc hy (rngI_mem.mp ha) (rngI_mem.mp hb) e)
  · obtain ⟨x, hx, rfl⟩ := List.mem_map.mp hz
    exact G.mi_in (rngI_mem.mp hx) hy
theorem Grp.row_perm {y : Int} (hy : InT t y) : (rowOf t y).Perm (rngI t.length) := by
  unfold rowOf
  refine perm_rng ?_ (by rw [List.length_map, rngI_len]) fun z hz => ?_
  · rw [List.Nodup, List.pairwise_map]
    have nr : (rngI t.length).Nodup := by
      unfold rngI
      rw [List.Nodup, List.pairwise_map]
      exact List.nodup_range.imp fun {a b} h e => h (by omega)
    exact nr.imp_of_mem fun {a b} ha hb n e => n (G.mi_lc hy (rngI_mem.mp ha) (rngI_mem.mp hb) e)
  · obtain ⟨x, hx, rfl⟩ := List.mem_map.mp hz
    exact G.mi_in hy (rngI_mem.mp hx)
theorem Grp.comp_col {x y : Int} (hx : InT t x) (hy : InT t y) : comp (colOf t y) (colOf t x) = colOf t (mi t x y) := by
  unfold comp
  conv => lhs; arg 2; unfold colOf
  conv => rhs; unfold colOf
  rw [List.map_map]
  refine List.map_congr_left fun z hz => ?_
  have hz := rngI_mem.mp hz
  have h := G.mi_in hz hx
  show (colOf t y).getD (mi t z x).toNat 0 = mi t z (mi t x y)
  rw [← G.mi_assoc hz hx hy]
  refine getD_of ?_
  unfold colOf
  rw [List.getElem?_map, rngI_get (by have := h.1; have := h.2; omega), Option.map_some, Int.toNat_of_nonneg h.1]
theorem Grp.comp_row {x y : Int} (hx : InT t x) (hy : InT t y) : comp (rowOf t y) (rowOf t x) = rowOf t (mi t y x) := by
  unfold comp
  conv => lhs; arg 2; unfold rowOf
  conv => rhs; unfold rowOf
  rw [List.map_map]
  refine List.map_congr_left fun z hz => ?_
  have hz := rngI_mem.mp hz
  have h := G.mi_in hx hz
  show (rowOf t y).getD (mi t x z).toNat 0 = mi t (mi t y x) z
  rw [G.mi_assoc hy hx hz]
  refine getD_of ?_
  unfold rowOf
  rw [List.getElem?_map, rngI_get (by have := h.1; have := h.2; omega), Option.map_some, Int.toNat_of_nonneg h.1]
theorem Grp.col_cons {y : Int} (hy : InT t y) : ∃ r, colOf t y = y :: r := by
  unfold colOf rngI
  obtain ⟨n, hn⟩ : ∃ n, t.length = n + 1 := ⟨t.length - 1, by have := G.sq.pos; omega⟩
  rw [hn, List.range_succ_eq_map, List.map_cons, List.map_cons]
  have : mi t ((0 : Nat) : Int) y = y := (G.mi_one hy).1
  rw [this]
  exact ⟨_, rfl⟩
theorem Grp.row_cons {y : Int} (hy : InT t y) : ∃ r, rowOf t y = y :: r := by
  unfold rowOf rngI
  obtain ⟨n, hn⟩ : ∃ n, t.length = n + 1 := ⟨t.length - 1, by have := G.sq.pos; omega⟩
  rw [hn, List.range_succ_eq_map, List.map_cons, List.map_cons]
  have : mi t y ((0 : Nat) : Int) = y := (G.mi_one hy).2
  rw [this]
  exact ⟨_, rfl⟩
theorem Grp.col_zero : colOf t 0 = rngI t.length := by
  unfold colOf
  conv => rhs; rw [← List.map_id (rngI t.length)]
  exact List.map_congr_left fun x hx => (G.mi_one (rngI_mem.mp hx)).2
theorem Grp.row_zero : rowOf t 0 = rngI t.length := by
  unfold rowOf
  conv => rhs; rw [← List.map_id (rngI t.length)]
  exact List.map_congr_left fun x hx => (G.mi_one (rngI_mem.mp hx)).1
omit G in
theorem col_len (y : Int) : (colOf t y).length = t.length := by unfold colOf; rw [List.length_map, rngI_len]
omit G in
theorem row_len (y : Int) : (rowOf t y).length = t.length := by unfold rowOf; rw [List.length_map, rngI_len]
theorem Grp.col_rg {y : Int} (hy : InT t y) (z : Int) : ∀ x ∈ colOf t y, 0 ≤ x ∧ x < ((colOf t z).length : Int) := fun x hx => by
  rw [col_len]; exact rngI_mem.mp ((G.col_perm hy).mem_iff.mp hx)
theorem Grp.row_rg {y : Int} (hy : InT t y) (z : Int) : ∀ x ∈ rowOf t y, 0 ≤ x ∧ x < ((rowOf t z).length : Int) := fun x hx => by
  rw [row_len]; exact rngI_mem.mp ((G.row_perm hy).mem_iff.mp hx)
theorem Grp.comp_wcol {b h : Nat} {x y : Int} (hx : InT t x) (hy : InT t y) : comp (widen b h (colOf t y)) (widen b h (colOf t x)) = widen b h (colOf t (mi t x y)) := by
  rw [comp_widen (by rw [col_len, col_len]) (G.col_rg hx y), G.comp_col hx hy]
theorem Grp.comp_wrow {b h : Nat} {x y : Int} (hx : InT t x) (hy : InT t y) : comp (widen b h (rowOf t y)) (widen b h (rowOf t x)) = widen b h (rowOf t (mi t y x)) := by
  rw [comp_widen (by rw [row_len, row_len]) (G.row_rg hx y), G.comp_row hx hy]
theorem SubG.cols (S : SubG t ns ms) (b h : Nat) : PClosed (ns.map fun y => widen b h (colOf t y)) (rngI (b + t.length + h)) (ms.map fun y => widen b h (colOf t y)) := by
  constructor
  · rw [List.pairwise_map]
    refine S.cl.asc.imp_of_mem fun {x y} hx hy lt => ?_
    obtain ⟨r, e1⟩ := G.col_cons (S.in_ G x hx)
    obtain ⟨s, e2⟩ := G.col_cons (S.in_ G y hy)
    rw [e1, e2]
    exact ltL_widen lt
  · intro z
    have fwd : ∀ x, Reach t ns x → PReach (ns.map fun y => widen b h (colOf t y)) (rngI (b + t.length + h)) (widen b h (colOf t x)) := by
      intro x hx
      induction hx with
      | zero => rw [G.col_zero, widen_rng]; exact .one
      | @step x m r hm ih =>
        rw [show at2 t x.toNat m.toNat = mi t x m from rfl, ← G.comp_wcol (G.reach_in S.gen r) (S.gen m hm)]
        exact .step ih (List.mem_map.mpr ⟨m, hm, rfl⟩)
    constructor
    · intro hz
      obtain ⟨x, hx, rfl⟩ := List.mem_map.mp hz
      exact fwd x ((S.cl.mem x).mp hx)
    · intro hz
      have : ∃ x, Reach t ns x ∧ z = widen b h (colOf t x) := by
        induction hz with
        | one => exact ⟨0, .zero, by rw [G.col_zero, widen_rng]⟩
        | @step z p _ hp ih =>
          obtain ⟨x, hx, rfl⟩ := ih
          obtain ⟨m, hm, rfl⟩ := List.mem_map.mp hp
          exact ⟨mi t x m, .step hx hm, G.comp_wcol (G.reach_in S.gen hx) (S.gen m hm)⟩
      obtain ⟨x, hx, rfl⟩ := this
      exact List.mem_map.mpr ⟨x, (S.cl.mem x).mpr hx, rfl⟩
theorem SubG.rows (S : SubG t ns ms) (b h : Nat) : PClosed (ns.map fun y => widen b h (rowOf t y)) (rngI (b + t.length + h)) (ms.map fun y => widen b h (rowOf t y)) := by
  constructor
  · rw [List.pairwise_map]
    refine S.cl.asc.imp_of_mem fun {x y} hx hy lt => ?_
    obtain ⟨r, e1⟩ := G.row_cons (S.in_ G x hx)
    obtain ⟨s, e2⟩ := G.row_cons (S.in_ G y hy)
    rw [e1, e2]
    exact ltL_widen lt
  · intro z
    have one : ∀ m ∈ ns, Reach t ns m := fun m hm => by
      have := Reach.step (t := t) Reach.zero hm
      rw [show at2 t (0 : Int).toNat m.toNat = mi t 0 m from rfl, (G.mi_one (S.gen m hm)).1] at this
      exact this
    constructor
    · intro hz
      obtain ⟨x, hx, rfl⟩ := List.mem_map.mp hz
      have hx := (S.cl.mem x).mp hx
      -- words may be prolonged at the other end
      have key : ∀ x, Reach t ns x → ∀ y, InT t y → PReach (ns.map fun y => widen b h (rowOf t y)) (rngI (b + t.length + h)) (widen b h (rowOf t y)) → PReach (ns.map fun y => widen b h (rowOf t y)) (rngI (b + t.length + h)) (widen b h (rowOf t (mi t x y))) := by
        intro x hx
        induction hx with
        | zero => intro y hy h2; rw [(G.mi_one hy).1]; exact h2
        | @step x m r hm ih =>
          intro y hy h2
          have hx := G.reach_in S.gen r
          have hm' := S.gen m hm
          show PReach _ _ (widen b h (rowOf t (mi t (mi t x m) y)))
          rw [G.mi_assoc hx hm' hy]
          refine ih _ (G.mi_in hm' hy) ?_
          rw [← G.comp_wrow hy hm']
          exact .step h2 (List.mem_map.mpr ⟨m, hm, rfl⟩)
      have := key x hx 0 G.mi_zero (by rw [G.row_zero, widen_rng]; exact .one)
      rw [(G.mi_one (G.reach_in S.gen hx)).2] at this
      exact this
    · intro hz
      have : ∃ x, Reach t ns x ∧ z = widen b h (rowOf t x) := by
        induction hz with
        | one => exact ⟨0, .zero, by rw [G.row_zero, widen_rng]⟩
        | @step z p _ hp ih =>
          obtain ⟨x, hx, rfl⟩ := ih
          obtain ⟨m, hm, rfl⟩ := List.mem_map.mp hp
          exact ⟨mi t m x, G.reach_mul S.gen (one m hm) hx, G.comp_wrow (G.reach_in S.gen hx) (S.gen m hm)⟩
      obtain ⟨x, hx, rfl⟩ := this
      exact List.mem_map.mpr ⟨x, (S.cl.mem x).mpr hx, rfl⟩
theorem SubG.tabCols (S : SubG t ns ms) (b h : Nat) : tabOf (fun p q => comp q p) (ms.map fun y => widen b h (colOf t y)) = tabOf (mi t) ms := by
  refine tabOf_map (fun x hx y hy e => ?_) (fun x hx y hy => (G.comp_wcol (S.in_ G x hx) (S.in_ G y hy)).symm) (S.mul G)
  obtain ⟨r, e1⟩ := G.col_cons (S.in_ G x hx)
  obtain ⟨s, e2⟩ := G.col_cons (S.in_ G y hy)
  rw [e1, e2] at e
  exact widen_inj e
theorem SubG.tabRows (S : SubG t ns ms) (b h : Nat) : tabOf (fun p q => comp q p) (ms.map fun y => widen b h (rowOf t y)) = tabOf (fun x y => mi t y x) ms := by
  refine tabOf_map (f := fun x y => mi t y x) (fun x hx y hy e => ?_) (fun x hx y hy => (G.comp_wrow (S.in_ G x hx) (S.in_ G y hy)).symm) (fun x hx y hy => S.mul G y hy x hx)
  obtain ⟨r, e1⟩ := G.row_cons (S.in_ G x hx)
  obtain ⟨s, e2⟩ := G.row_cons (S.in_ G y hy)
  rw [e1, e2] at e
  exact widen_inj e
end
theorem widen0 (r : List Int) : widen 0 0 r = r := by
  unfold widen rngI
  simp
end GT

set_option Elab.async false
set_option linter.all false
set_option maxRecDepth 100000
set_option maxHeartbeats 2000000
/-! calls with keywords; values that are alike -/
namespace Rd
open PySem PySem.Spec PyProof.Rows L2
/-- a def with keyword-only parameters (without defaults), called by keywords -/
structure DOkN (P : Program) (w : World) (K : PySem.W.Frag) (mg : Str → Option Value) (base : Heap) (CX : CXT) (x : Str) (k : Nat) (ps : List Str) (n : Nat) (ks : List Str) (sp : Sp) : Prop where
  ok : ∃ f fd, FnOk P w K mg base CX k f fd ps sp ∧ mg x = some (.ref f) ∧ PySem.W.keepIn K (.ref f) = true ∧ KBn K fd ps n ks (fun us ws => us ++ ws) (fun vs zs => vs ++ zs)
section
variable {X : Cx} {x : Str} {p pos : Pos} {e : Expr} {es : List Expr} {kws : List Keyword} {ts tk : TA} {k n : Nat} {ps ks : List Str} {sp : Sp} {CX : CXT} {E : XK}
theorem callXN (D : DOkN X.prog X.w X.K X.mg X.base CX x k ps n ks sp) (hr : Room k X.A) (hx : Passes CX X E) (ha : PA X (e :: es) ts) (hkw : PK X kws tk) (hg : Gl X x := by rfl)
    (hall : (backToKw pos (keywordEach kws X.env)).all (·.1.isSome) = true := by rfl) (hks : (backToKw pos (keywordEach kws X.env)).filterMap (·.1) = ks := by rfl)
    (hdb : (x == ("__debug__" : Str)) = false := by decide) (he : starEach (e :: es) X.env = (false, eval e X.env) :: starEach es X.env := by rfl)
    (hpl : ((backTo pos (starEach (e :: es) X.env)).any (·.1) || (backToKw pos (keywordEach kws X.env)).any (·.1.isNone)) = false := by rfl) :
    PE X (.Call (.Name x p) (e :: es) kws pos) (tCallN n ks.length sp (fun vs zs => vs ++ zs) E ts tk) := by
  obtain ⟨f, fd, F, hm, hk, hb⟩ := D.ok
  exact pe_callN F hr hg hm hk hb hx ha hkw hall hks hdb he hpl
theorem callN {m : Nat} {gV : List V → List V → List V} {σ : L2.St} {H : Hp} {Q : VK} (h : ts σ H fun vs H1 => tk σ H1 fun zs H2 => vs.length = n ∧ zs.length = m ∧ sp (gV vs zs) H2 Q E) : tCallN n m sp gV E ts tk σ H Q := h
end
theorem _root_.L2.FunD.kbn {K : PySem.W.Frag} {x qual : Str} {params : Arguments} {body : List Stmt} {scope : Scope} {f : Addr} {fd : FuncData} {ps ks : List Str} {n : Nat} (F : FunD K x qual params body scope [] [] f fd)
    (h : ∀ (kV doc pm : Value) (an : Option Addr) (cdv ct : Value) (us ws : List Value), us.length = n → ws.length = ks.length → bindArgs (PySem.W.fnOf x qual params body scope .none kV doc pm an cdv ct) ⟨us, ks.zip ws⟩ = pure (ps.zip (us ++ ws))) :
    KBn K fd ps n ks (fun us ws => us ++ ws) (fun vs zs => vs ++ zs) := by
  obtain ⟨oc, od, dV, kV, doc, pm, an, cdv, ct, osl, rfl, lk, hcd, hD, hK⟩ := F.ex
  refine ⟨fun s us ws _ h1 h2 => ?_, fun r1 r2 => r1.append r2⟩
  rcases hD with ⟨_, rfl⟩ | ⟨e, _⟩
  · exact BindsTo.of_eq (h kV doc pm an cdv ct us ws h1 h2)
  · exact absurd rfl e
/-- a promise of nothing -/
theorem fnFalse {P : Program} {w : World} {K : PySem.W.Frag} {mg : Str → Option Value} {base : Heap} {CX : CXT} {k : Nat} {f : Addr} {fd : FuncData} {ps : List Str} : FnOk P w K mg base CX k f fd ps (fun _ _ _ _ => False) :=
  ⟨fun _ _ _ _ h => h.elim, fun _ _ _ _ _ _ _ _ _ _ _ _ _ h => h.elim⟩
/-- x[i] of a list or a tuple -/
def rIxA (K : PySem.W.Frag) : R2 := fun x y H Q => rIxL K x y H Q ∨ rIxT K x y H Q
/-! ### alike values -/
def TupX (H : Hp) (a : Addr) (xs : List V) : Prop := H a = some (.tup xs) ∨ ∃ ob : Obj, H a = some (.frz ob (.tup xs))
theorem TupX.same {H H' : Hp} {a : Addr} {xs : List V} (h : TupX H a xs) (e : Same H H') : TupX H' a xs := by
  rcases h with h | ⟨o, h⟩
  · exact .inl (e _ _ h)
  · exact .inr ⟨o, e _ _ h⟩
theorem TupX.sq {K : PySem.W.Frag} {H : Hp} {a : Addr} {xs : List V} (h : TupX H a xs) : SqT K H a xs := by
  rcases h with h | ⟨o, h⟩
  · exact .inl (.inl h)
  · exact .inl (.inr ⟨o, h⟩)
theorem TupN.x {H : Hp} {a : Addr} {xs : List V} (h : TupN H a xs) : TupX H a xs := by
  obtain ⟨ob, _, q⟩ := h
  exact .inr ⟨ob, q⟩
inductive DD (H : Hp) : Nat → V → V → Prop
  | bl (n : Nat) (b : Bool) : DD H n (.bl b) (.bl b)
  | int (n : Nat) (i : Int) : DD H n (.int i) (.int i)
  | lst {n : Nat} {a b : Addr} {xs ys : List V} : H a = some (.lst xs) → H b = some (.lst ys) → xs.length = ys.length → ys.length ≤ 1000 → (∀ (i : Nat) (x y : V), xs[i]? = some x → ys[i]? = some y → DD H n x y) → DD H (n + 1) (.ref a) (.ref b)
  | tup {n : Nat} {a b : Addr} {xs ys : List V} : TupX H a xs → TupX H b ys → xs.length = ys.length → ys.length ≤ 1000 → (∀ (i : Nat) (x y : V), xs[i]? = some x → ys[i]? = some y → DD H n x y) → DD H (n + 1) (.ref a) (.ref b)
theorem DD.same {H H' : Hp} {n : Nat} {x y : V} (h : DD H n x y) (e : Same H H') : DD H' n x y := by
  induction h with
  | bl n b => exact .bl n b
  | int n i => exact .int n i
  | lst h1 h2 h3 h4 _ ih => exact .lst (e _ _ h1) (e _ _ h2) h3 h4 ih
  | tup h1 h2 h3 h4 _ ih => exact .tup (h1.same e) (h2.same e) h3 h4 ih
theorem DD.up {H : Hp} {n : Nat} {x y : V} (h : DD H n x y) : DD H (n + 1) x y := by
  induction h with
  | bl n b => exact .bl _ b
  | int n i => exact .int _ i
  | lst h1 h2 h3 h4 _ ih => exact .lst h1 h2 h3 h4 ih
  | tup h1 h2 h3 h4 _ ih => exact .tup h1 h2 h3 h4 ih
theorem DD.ints {H : Hp} {a b : Addr} {ns : List Int} (h1 : H a = some (.lst (ns.map V.int))) (h2 : H b = some (.lst (ns.map V.int))) (z : ns.length ≤ 1000) : DD H 1 (.ref a) (.ref b) := by
  refine .lst h1 h2 rfl (by rw [List.length_map]; exact z) fun i x y hx hy => ?_
  rw [hx] at hy
  cases hy
  obtain ⟨n, _, rfl⟩ := GT.intAt hx
  exact .int 0 n
theorem DD.tints {H : Hp} {a b : Addr} {ns : List Int} (h1 : TupX H a (ns.map V.int)) (h2 : TupX H b (ns.map V.int)) (z : ns.length ≤ 1000) : DD H 1 (.ref a) (.ref b) := by
  refine .tup h1 h2 rfl (by rw [List.length_map]; exact z) fun i x y hx hy => ?_
  rw [hx] at hy
  cases hy
  obtain ⟨n, _, rfl⟩ := GT.intAt hx
  exact .int 0 n
open GT in
theorem DD.tab {H : Hp} {a b : Addr} {as bs : List Addr} {t : List (List Int)} (h1 : H a = some (.lst (as.map V.ref))) (h2 : H b = some (.lst (bs.map V.ref))) (r1 : Rows LstN H as t) (r2 : Rows LstN H bs t) (z : t.length ≤ 1000) (z2 : ∀ r ∈ t, r.length ≤ 1000) : DD H 2 (.ref a) (.ref b) := by
  refine .lst h1 h2 (by rw [List.length_map, List.length_map, r1.len, r2.len]) (by rw [List.length_map, r2.len]; exact z) fun i x y hx hy => ?_
  obtain ⟨a, r, rfl, _, q1, g1⟩ := r1.at hx
  obtain ⟨b, r', rfl, _, q2, g2⟩ := r2.at hy
  rw [q1] at q2
  cases q2
  exact .ints g1 g2 (z2 r (List.mem_of_getElem? q1))
open GT in
theorem DD.ttab {H : Hp} {a b : Addr} {as bs : List Addr} {t : List (List Int)} (h1 : TupX H a (as.map V.ref)) (h2 : TupX H b (bs.map V.ref)) (r1 : Rows TupN H as t) (r2 : Rows TupN H bs t) (z : t.length ≤ 1000) (z2 : ∀ r ∈ t, r.length ≤ 1000) : DD H 2 (.ref a) (.ref b) := by
  refine .tup h1 h2 (by rw [List.length_map, List.length_map, r1.len, r2.len]) (by rw [List.length_map, r2.len]; exact z) fun i x y hx hy => ?_
  obtain ⟨a, r, rfl, _, q1, g1⟩ := r1.at hx
  obtain ⟨b, r', rfl, _, q2, g2⟩ := r2.at hy
  rw [q1] at q2
  cases q2
  exact .tints g1.x g2.x (z2 r (List.mem_of_getElem? q1))
end Rd
namespace Rk
open PySem PySem.Spec PyProof.Rows L2 Rd
theorem ixA {X : Cx} (K : PySem.W.Frag) (h : X.K = K := by rfl) : IxR X (rIxA K) := by
  intro value slice pins s σ H x y v u Q I rx ry q hs
  rcases q with q | q
  · exact ixL K h value slice pins s σ H x y v u Q I rx ry q hs
  · exact ixT K h value slice pins s σ H x y v u Q I rx ry q hs
end Rk

set_option Elab.async false
set_option linter.all false
set_option maxRecDepth 100000
set_option maxHeartbeats 4000000
namespace K10
open PySem L2 Rd GT
def top (i : Nat) : Stmt := PySem.Challenge.pw_stepsvanish_k10_columns_as_permutations.main.body.getD i (.Pass ⟨0, 0, 0, 0⟩)
local macro_rules | `(tactic| walk_at "st1") => `(tactic| with_reducible first
  | refine' Rd.seq ?_ | refine' Rd.nxt ?_ | refine' Rd.asg ?_ | refine' Rd.nm ?_ | refine' Rd.con ?_ | refine' Rd.op ?_ | refine' Rd.i0 ?_ | refine' Rd.un ?_ | refine' Rd.u0 ?_
  | refine' Rd.eqI ?_ | refine' Rd.neI ?_ | refine' Rd.eqB ?_ | refine' Rd.tst ?_ | refine' Rd.tB_ ?_ | refine' Rd.exb ?_ | refine' Rd.ifS ?_ | refine' Rd.ret ?_ | refine' Rd.retN ?_ | refine' Rd.drop ?_
  | refine' Rd.nil ?_ | refine' Rd.cons ?_ | refine' Rd.cb ?_ | refine' Rd.call ?_ | refine' Rd.callN ?_ | refine' Rd.andT ?_ | refine' Rd.orT ?_ | refine' Rd.notT ?_ | refine' Rd.andV ?_ | refine' Rd.orV ?_ | refine' Rd.notV ?_ | refine' Rd.chain ?_
  | refine' Rd.lst ?_ | refine' Rd.tup ?_ | refine' Rd.for_ ?_ | refine' Rd.rng1 ?_ | refine' Rd.rng2 ?_ | refine' Rd.itl ?_ | refine' Rd.itt ?_ | refine' Rd.sub ?_
  | refine' Rd.lrg ?_ | refine' Rd.rg1 ?_ | refine' Rd.rg2 ?_ | refine' Rd.exi ?_ | refine' Rd.exi2 ?_ | refine' Rd.int1 ?_ | refine' Rd.ex1 ?_ | refine' Rd.ex2 ?_
  | refine' Rd.fld ?_ | refine' Rd.sfld ?_ | refine' Rd.meth ?_ | refine' Rd.make ?_ | refine' Rd.lc ?_ | refine' Rd.bm ?_ | refine' Rd.bm0 ?_ | refine' Rd.bt ?_ | refine' Rd.enT ?_ | refine' Rd.enL ?_)
local macro_rules | `(tactic| walk_at "st") => `(tactic| repeat (first | walk_at "st1" | ((with_reducible refine' Rd.var ?hv ?_); (case hv => rfl))))
local macro_rules | `(tactic| walk_at "sj1") => `(tactic| with_reducible first
  | refine' Rd.seqA ?_ | refine' Rd.seqD ?_ | refine' Rd.seqF ?_ | refine' Rd.seqW ?_ | refine' Rd.nxt ?_ | refine' Rd.asg ?_ | refine' Rd.nm ?_ | refine' Rd.con ?_ | refine' Rd.op ?_ | refine' Rd.i0 ?_ | refine' Rd.un ?_ | refine' Rd.u0 ?_
  | refine' Rd.eqI ?_ | refine' Rd.neI ?_ | refine' Rd.eqB ?_ | refine' Rd.tst ?_ | refine' Rd.tB_ ?_ | refine' Rd.exb ?_ | refine' Rd.ifS ?_ | refine' Rd.ret ?_ | refine' Rd.retN ?_ | refine' Rd.drop ?_
  | refine' Rd.nil ?_ | refine' Rd.cons ?_ | refine' Rd.cb ?_ | refine' Rd.call ?_ | refine' Rd.callN ?_ | refine' Rd.andT ?_ | refine' Rd.orT ?_ | refine' Rd.notT ?_ | refine' Rd.andV ?_ | refine' Rd.orV ?_ | refine' Rd.notV ?_ | refine' Rd.chain ?_
  | refine' Rd.lst ?_ | refine' Rd.tup ?_ | refine' Rd.for_ ?_ | refine' Rd.rng1 ?_ | refine' Rd.rng2 ?_ | refine' Rd.itl ?_ | refine' Rd.itt ?_ | refine' Rd.sub ?_
  | refine' Rd.lrg ?_ | refine' Rd.rg1 ?_ | refine' Rd.rg2 ?_ | refine' Rd.exi ?_ | refine' Rd.exi2 ?_ | refine' Rd.int1 ?_ | refine' Rd.ex1 ?_ | refine' Rd.ex2 ?_
  | refine' Rd.fld ?_ | refine' Rd.sfld ?_ | refine' Rd.meth ?_ | refine' Rd.make ?_ | refine' Rd.lc ?_ | refine' Rd.bm ?_ | refine' Rd.bm0 ?_ | refine' Rd.bt ?_ | refine' Rd.enT ?_ | refine' Rd.enL ?_)
local macro_rules | `(tactic| walk_at "sj") => `(tactic| repeat (first | walk_at "sj1" | ((with_reducible refine' Rd.var ?hv ?_); (case hv => rfl))))
structure Txt (K : PySem.W.Frag) (mg : Str → Option Value) : Prop where
  len : mg "len" = none
  tuple : mg "tuple" = none
  list : mg "list" = none
  range : mg "range" = none
  all : mg "all" = none
  enumerate : mg "enumerate" = none
  sorted : mg "sorted" = none
  int : mg "int" = none
  bool : mg "bool" = none
  abs : mg "abs" = none
  isinstance : mg "isinstance" = none
  str : mg "str" = none
  dict : mg "dict" = none
  LIMIT : ∃ t, mg "LIMIT" = some (.int 32 t)
  ex_LimitExceeded : ExF K mg "LimitExceeded" (He.ga K "LimitExceeded")
  ex_InvalidGroup : ExF K mg "InvalidGroup" (He.ga K "InvalidGroup")
  ex_InvalidElement : ExF K mg "InvalidElement" (He.ga K "InvalidElement")
  ex_NotSubgroup : ExF K mg "NotSubgroup" (He.ga K "NotSubgroup")
  cl : Cls K (He.ga K "Group")
  nO : NoAttr K (He.ga K "Group") "order"
  nR : NoAttr K (He.ga K "Group") "rows"
  nI : NoAttr K (He.ga K "Group") "inverses"
/-! ### the checks of Group.__init__ -/
def sp_shape : Sp := fun vs H Q _ => ∃ (R : Addr) (rs : List Addr) (t : List (List Int)), vs = [.ref R] ∧ TupN H R (rs.map V.ref) ∧ Rows TupN H rs t ∧ t.length ≤ 32 ∧ ∀ (b : Bool) (H' : Hp), (b = true ↔ Sq t) → Same H H' → Q (.bl b) H'
def sp_idn : Sp := fun vs H Q _ => ∃ (R : Addr) (rs : List Addr) (t : List (List Int)), vs = [.ref R] ∧ TupN H R (rs.map V.ref) ∧ Rows TupN H rs t ∧ t.length ≤ 32 ∧ Sq t ∧ ∀ (b : Bool) (H' : Hp), (b = true ↔ Idn t) → Same H H' → Q (.bl b) H'
def sp_invs : Sp := fun vs H Q _ => ∃ (R : Addr) (rs : List Addr) (t : List (List Int)), vs = [.ref R] ∧ TupN H R (rs.map V.ref) ∧ Rows TupN H rs t ∧ t.length ≤ 32 ∧ ∀ (b : Bool) (H' : Hp), (b = true ↔ GT.Inv t) → Same H H' → Q (.bl b) H'
def sp_asc : Sp := fun vs H Q _ => ∃ (R : Addr) (rs : List Addr) (t : List (List Int)), vs = [.ref R] ∧ TupN H R (rs.map V.ref) ∧ Rows TupN H rs t ∧ t.length ≤ 32 ∧ Sq t ∧ ∀ (b : Bool) (H' : Hp), (b = true ↔ Asc t) → Same H H' → Q (.bl b) H'
section
variable {P : Program} {w : World} {K : PySem.W.Frag} {mg : Str → Option Value} {base : Heap} {f : Addr} {fd : FuncData}
abbrev s__has_shape : Stmt := (top 10)
theorem sc__has_shape : FnScope ["rows", "order", "row", "entry"] ["rows"] (defScope s__has_shape) := ⟨rfl, rfl, rfl, by decide +kernel, rfl, by decide +kernel, by decide +kernel⟩
theorem ok_shape (F : FnP K "_has_shape" "_has_shape" s__has_shape f fd) (T : Txt K mg) : FnOk P w K mg base CX0 1 f fd ["rows"] sp_shape := by
  refine F.ok sc__has_shape (fun vs H Q E h => ?_) (fun cdv A outer s H vs Q E hr h => ?_)
  · obtain ⟨_, _, _, rfl, _⟩ := h; rfl
  obtain ⟨R, rs, t, rfl, hR, rw_, h32, k⟩ := h
  refine ⟨_, PSs.nox (pss_cons (ps_set (i := 1) sc__has_shape.nd rfl (Or.inr rfl) (pe_callB (Rk.len K) rfl T.len PySem.boot_len (pa_cons (pv 0) pa_nil)))
  (pss_cons (ps_if (pt_cmpR op_eq (pv 1) pe_int (nomark _))
  (pss_one (ps_ret pe_bl))
  pss_nil)
  (pss_cons (ps_for PassesOwn.never rfl (Rk.pt K rfl (pv 0)) (pg_name (i := 2) sc__has_shape.nd rfl (Or.inl rfl))
  (pss_one (ps_if (PW.pt (pw_or (pt_cmpR op_ne (pe_callB (Rk.len K) rfl T.len PySem.boot_len (pa_cons (pv 2) pa_nil)) (pv 1) (nomark _)) (pw_or1 (pt_not (pt_val (pe_callB (Rk.all K rfl rfl) rfl T.all (by decide +kernel) (pa_cons (pe_lc (own := [("entry", 3)]) rfl sc__has_shape.nd (Rk.pt K rfl (pv 2)) (blkOk_by (own := [("entry", 3)]) (N := ["rows", "order", "row", "entry"]) (sc := defScope s__has_shape) (by decide +kernel)) (fun _ _ _ _ _ => (pg_name (i := 3) sc__has_shape.nd rfl (Or.inl rfl))) (fun _ _ _ _ _ => pts_nil) (fun _ _ _ _ _ => (pe_chain op_le op_lt pe_int (pv 3) (pv 1)))) pa_nil)))))))
  (pss_one (ps_ret pe_bl))
  pss_nil)))
  (pss_one (ps_ret pe_bl))))), ?_⟩
  have hl : (rs.map V.ref).length = t.length := by rw [List.length_map, rw_.len]
  walk_at "st"
  refine Rd.len1 (.inr (hR.sq)) ?_
  walk_at "st"
  refine Rd.ite_d (fun c => ?_) (fun c => ?_)
  · walk_at "st"
    exact k false H (by simp; intro S; have := S.pos; omega) (Same.refl _)
  walk_at "st"
  refine Rd.itt' (hR.sq) ?_
  refine for_tup (K := K) (a := R) (xs := rs.map V.ref) (fun i σ H' => ∃ (v : Option V), σ = [some (.ref R), some (.int (t.length : Int)), v, none] ∧ Same H H' ∧ ∀ j r, j < i → t[j]? = some r → r.length = t.length ∧ ∀ e ∈ r, 0 ≤ e ∧ e < (t.length : Int))
    ⟨none, by rw [← hl]; rfl, Same.refl _, fun j r h => by omega⟩ (fun i σ H' _ ⟨_, _, e, _⟩ => Rd.same_t e (hR.sq)) ?_ ?_
  · rintro i x σ H' hx ⟨v, rfl, e, sf⟩
    obtain ⟨a, r, rfl, h1, h2, h3⟩ := rw_.at hx
    have h4 := h3.same e
    walk_at "st"
    refine Rd.len1 (.inr (h4.sq)) ?_
    walk_at "st"
    rw [List.length_map]
    refine Rd.ite_n (fun c => ?_) (fun c => ?_)
    · refine iteT ?_
      walk_at "st"
      refine k false H' ?_ e
      simp
      intro S
      have := (S.row r (List.mem_of_getElem? h2)).1
      omega
    walk_at "st"
    refine Rd.itt' (h4.sq) ?_
    refine Rd.lcMap (fun n => .bl (decide (0 ≤ r.getD n 0) && decide (r.getD n 0 < (t.length : Int)))) (Rd.src_tup (h4.sq)) (by rw [List.length_map]; omega) (by intro _; rfl) (fun n y H1 Q1 hy e1 q1 => ?_) (fun p H1 hp e1 h5 => ?_)
    · obtain ⟨z, hz, rfl⟩ := intAt hy
      rw [getD_of hz] at q1
      walk_at "st"
      refine Rd.ite_d (fun c1 => ?_) (fun c1 => ?_)
      · walk_at "st"
        rw [decide_eq_true c1, Bool.true_and] at q1
        exact q1 _ (Same.refl _)
      · rw [decide_eq_false c1, Bool.false_and] at q1
        exact q1 _ (Same.refl _)
    · walk_at "st"
      refine ⟨p, _, rfl, SqL.of (by rw [h5, map_bl]), ?_⟩
      walk_at "st"
      refine Rd.ite_nb (fun c2 => ?_) (fun c2 => ?_)
      · walk_at "st"
        refine k false H1 ?_ (Same.trans e e1)
        simp
        intro S
        have hS := S.row r (List.mem_of_getElem? h2)
        have : ((List.range (r.map V.int).length).map fun n => (decide (0 ≤ r.getD n 0) && decide (r.getD n 0 < (t.length : Int)))).all id = true := by
          rw [all_id]
          intro n hn
          rw [List.length_map] at hn
          have hm : r.getD n 0 = r[n] := getD_of (List.getElem?_eq_getElem hn)
          obtain ⟨q1, q2⟩ := hS.2 r[n] (List.getElem_mem hn)
          rw [hm, decide_eq_true q1, decide_eq_true q2]; rfl
        rw [this] at c2; cases c2
      · walk_at "st"
        refine ⟨_, rfl, Same.trans e e1, fun j r' hj hr' => ?_⟩
        by_cases q : j < i
        · exact sf j r' q hr'
        · have ej : j = i := by omega
          rw [ej, h2] at hr'
          cases hr'
          refine ⟨by omega, fun z hz => ?_⟩
          obtain ⟨n, hn, rfl⟩ := List.getElem_of_mem hz
          rw [all_id] at c2
          have := c2 n (by rw [List.length_map]; exact hn)
          rw [getD_of (List.getElem?_eq_getElem hn), Bool.and_eq_true] at this
          exact ⟨of_decide_eq_true this.1, of_decide_eq_true this.2⟩
  · rintro σ H' ⟨v, rfl, e, sf⟩
    walk_at "st"
    refine k true H' ?_ e
    simp
    refine ⟨by omega, fun r hr => ?_⟩
    obtain ⟨j, hj, rfl⟩ := List.getElem_of_mem hr
    exact sf j _ (by omega) (List.getElem?_eq_getElem hj)
end
section
variable {P : Program} {w : World} {K : PySem.W.Frag} {mg : Str → Option Value} {base : Heap} {f : Addr} {fd : FuncData}
abbrev s__has_identity : Stmt := (top 11)
theorem sc__has_identity : FnScope ["rows", "order", "plain", "row"] ["rows"] (defScope s__has_identity) := ⟨rfl, rfl, rfl, by decide +kernel, rfl, by decide +kernel, by decide +kernel⟩
theorem ok_idn (F : FnP K "_has_identity" "_has_identity" s__has_identity f fd) (T : Txt K mg) : FnOk P w K mg base CX0 1 f fd ["rows"] sp_idn := by
  refine F.ok sc__has_identity (fun vs H Q E h => ?_) (fun cdv A outer s H vs Q E hr h => ?_)
  · obtain ⟨_, _, _, rfl, _⟩ := h; rfl
  obtain ⟨R, rs, t, rfl, hR, rw_, h32, S, k⟩ := h
  refine ⟨_, PSs.nox (pss_cons (ps_set (i := 1) sc__has_identity.nd rfl (Or.inl rfl) (pe_callB (Rk.len K) rfl T.len PySem.boot_len (pa_cons (pv 0) pa_nil)))
  (pss_cons (ps_set (i := 2) sc__has_identity.nd rfl (Or.inl rfl) (pe_listRg rfl rfl T.list (prg_1 rfl T.range (pv 1))))
  (pss_one (ps_ret (pe_and (pe_cmpR (Rk.eqD K rfl (un64 hr)) (pe_callTy (Rk.lis K) rfl T.list (by decide +kernel) (pa_cons (pe_ix (Rk.ixT K) (pv 0) pe_int (fun _ _ => rfl)) pa_nil)) (pv 2) (nomark _)) (pe_one (pe_cmpR (Rk.eqD K rfl (un64 hr)) (pe_lc (own := [("row", 3)]) rfl sc__has_identity.nd (Rk.pt K rfl (pv 0)) (blkOk_by (own := [("row", 3)]) (N := ["rows", "order", "plain", "row"]) (sc := defScope s__has_identity) (by decide +kernel)) (fun _ _ _ _ _ => (pg_name (i := 3) sc__has_identity.nd rfl (Or.inl rfl))) (fun _ _ _ _ _ => pts_nil) (fun _ _ _ _ _ => (pe_ix (Rk.ixT K) (pv 3) pe_int (fun _ _ => rfl)))) (pv 2) (nomark _)))))))), ?_⟩
  have hl : (rs.map V.ref).length = t.length := by rw [List.length_map, rw_.len]
  have tp := S.pos
  obtain ⟨a0, r0, g1, g2, g3⟩ := rw_.get S.pos
  have l0 := (S.row r0 (List.mem_of_getElem? g2)).1
  walk_at "st"
  refine Rd.len1 (.inr (hR.sq)) ?_
  walk_at "st"
  rw [hl]
  refine ⟨⟨by decide, by decide, by omega, by omega, by omega⟩, fun pl hpl => ?_⟩
  have plain : (upd H pl (.lst (rgV 0 (t.length : Int)))) pl = some (.lst (((List.range t.length).map fun i => ((i : Nat) : Int)).map V.int)) := by rw [upd_same, rgV_eq]
  have e1 : Same H (upd H pl (.lst (rgV 0 (t.length : Int)))) := Rd.same_mk hpl
  generalize upd H pl (.lst (rgV 0 (t.length : Int))) = H1 at plain e1
  walk_at "st"
  refine Rd.ixT ((hR.same e1).sq) (at_of (j := 0) rfl (by rw [List.getElem?_map, g1]; rfl)) ?_
  walk_at "st"
  refine ⟨a0, r0.map V.int, rfl, .inr ((g3.same e1).sq), fun l hl2 => ?_⟩
  have e2 := Rd.same_mk (o := .lst (r0.map V.int)) hl2
  have hL : (upd H1 l (.lst (r0.map V.int))) l = some (.lst (r0.map V.int)) := upd_same
  generalize upd H1 l (.lst (r0.map V.int)) = H2 at e2 hL
  walk_at "st"
  refine Rd.eqLL (SqL.of hL) (SqL.of (e2 _ _ plain)) ?_
  walk_at "st"
  have q0 : r0 = ((List.range t.length).map fun i => ((i : Nat) : Int)) ↔ ∀ x, x < t.length → at2 t 0 x = (x : Int) := by
    rw [eq_range]
    constructor
    · rintro ⟨_, h⟩ x hx
      exact at2_of g2 (h x hx)
    · intro h
      refine ⟨l0, fun x hx => ?_⟩
      have h5 : r0[x]? = some r0[x] := List.getElem?_eq_getElem (by omega)
      have h6 := h x hx
      rw [at2_of g2 h5] at h6
      rw [h5, h6]
  refine Rd.ite_d (fun c => ?_) (fun c => ?_)
  · walk_at "st"
    refine Rd.itt' (((hR.same e1).same e2).sq) ?_
    refine Rd.lcMap (fun n => .int (at2 t n 0)) (Rd.src_tup (((hR.same e1).same e2).sq)) (by omega) (by intro _; rfl) (fun n y H3 Q1 hy e3 q1 => ?_) (fun p H3 hp e3 h5 => ?_)
    · obtain ⟨a, r, rfl, h1, h2, h3⟩ := rw_.at hy
      have hn : n < t.length := by rw [← hl]; exact (List.getElem?_eq_some_iff.mp hy).1
      obtain ⟨_, _, r', h6, h7⟩ := S.at hn S.pos
      rw [h2] at h6
      cases h6
      walk_at "st"
      refine Rd.ixT ((((h3.same e1).same e2).same e3).sq) (at_of (j := 0) (v := .int (at2 t n 0)) rfl (by rw [List.getElem?_map, h7]; rfl)) ?_
      exact q1 _ (Same.refl _)
    · walk_at "st"
      refine Rd.eqLL (ns := (List.range t.length).map fun n => at2 t n 0) (SqL.of (by rw [h5, hl, map_in])) (SqL.of (e3 _ _ (e2 _ _ plain))) ?_
      refine k _ _ ?_ (Same.trans e1 (Same.trans e2 e3))
      rw [decide_eq_true_eq]
      constructor
      · intro h x hx
        refine ⟨q0.mp c x hx, ?_⟩
        have := (eq_range.mp h).2 x hx
        rw [List.getElem?_map, List.getElem?_range hx] at this
        exact Option.some.inj this
      · intro h
        refine eq_range.mpr ⟨by simp, fun x hx => ?_⟩
        rw [List.getElem?_map, List.getElem?_range hx]
        exact congrArg some (h x hx).2
  · refine k false _ ?_ (Same.trans e1 e2)
    simp
    intro h
    exact c (q0.mpr fun x hx => (h x hx).1)
abbrev s__has_inverses : Stmt := (top 12)
theorem sc__has_inverses : FnScope ["rows", "row"] ["rows"] (defScope s__has_inverses) := ⟨rfl, rfl, rfl, by decide +kernel, rfl, by decide +kernel, by decide +kernel⟩
theorem ok_invs (F : FnP K "_has_inverses" "_has_inverses" s__has_inverses f fd) (T : Txt K mg) : FnOk P w K mg base CX0 1 f fd ["rows"] sp_invs := by
  refine F.ok sc__has_inverses (fun vs H Q E h => ?_) (fun cdv A outer s H vs Q E hr h => ?_)
  · obtain ⟨_, _, _, rfl, _⟩ := h; rfl
  obtain ⟨R, rs, t, rfl, hR, rw_, h32, k⟩ := h
  refine ⟨_, PSs.nox (pss_one (ps_ret (pe_callB (Rk.all K rfl rfl) rfl T.all (by decide +kernel) (pa_cons (pe_lc (own := [("row", 1)]) rfl sc__has_inverses.nd (Rk.pt K rfl (pv 0)) (blkOk_by (own := [("row", 1)]) (N := ["rows", "row"]) (sc := defScope s__has_inverses) (by decide +kernel)) (fun _ _ _ _ _ => (pg_name (i := 1) sc__has_inverses.nd rfl (Or.inl rfl))) (fun _ _ _ _ _ => pts_nil) (fun _ _ _ _ _ => (pe_cmpR (Rk.inS K) pe_int (pv 1) (by with_unfolding_all rfl)))) pa_nil)))), ?_⟩
  have hl : (rs.map V.ref).length = t.length := by rw [List.length_map, rw_.len]
  walk_at "st"
  refine Rd.itt' (hR.sq) ?_
  refine Rd.lcMap (fun n => .bl (decide ((0 : Int) ∈ t.getD n []))) (Rd.src_tup (hR.sq)) (by omega) (by intro _; rfl) (fun n y H3 Q1 hy e3 q1 => ?_) (fun p H3 hp e3 h5 => ?_)
  · obtain ⟨a, r, rfl, h1, h2, h3⟩ := rw_.at hy
    rw [getD_of h2] at q1
    walk_at "st"
    exact Rd.inI (.inr ((h3.same e3).sq)) (q1 _ (Same.refl _))
  · walk_at "st"
    refine ⟨p, _, rfl, SqL.of (by rw [h5, map_bl]), ?_⟩
    refine k _ _ ?_ e3
    rw [all_id, hl]
    constructor
    · intro h r hr
      obtain ⟨n, hn, rfl⟩ := List.getElem_of_mem hr
      have := h n hn
      rw [getD_of (List.getElem?_eq_getElem hn)] at this
      exact of_decide_eq_true this
    · intro h n hn
      rw [getD_of (List.getElem?_eq_getElem hn)]
      exact decide_eq_true (h _ (List.getElem_mem hn))
abbrev s__is_associative : Stmt := (top 13)
theorem sc__is_associative : FnScope ["rows", "row", "y", "product", "yz"] ["rows"] (defScope s__is_associative) := ⟨rfl, rfl, rfl, by decide +kernel, rfl, by decide +kernel, by decide +kernel⟩
theorem ok_asc (F : FnP K "_is_associative" "_is_associative" s__is_associative f fd) (T : Txt K mg) : FnOk P w K mg base CX0 1 f fd ["rows"] sp_asc := by
  refine F.ok sc__is_associative (fun vs H Q E h => ?_) (fun cdv A outer s H vs Q E hr h => ?_)
  · obtain ⟨_, _, _, rfl, _⟩ := h; rfl
  obtain ⟨R, rs, t, rfl, hR, rw_, h32, S, k⟩ := h
  refine ⟨_, PSs.nox (pss_cons (ps_for PassesOwn.never rfl (Rk.pt K rfl (pv 0)) (pg_name (i := 1) sc__is_associative.nd rfl (Or.inr rfl))
  (pss_one (ps_for PassesOwn.never rfl (Rx.pi_enumT rfl T.enumerate (pa_cons (pv 1) pa_nil)) (Rk.gtup K rfl rfl (pgs_cons (pg_name (i := 2) sc__is_associative.nd rfl (Or.inl rfl)) (pgs_cons (pg_name (i := 3) sc__is_associative.nd rfl (Or.inl rfl)) pgs_nil)))
  (pss_one (ps_if (pt_cmpR (Rk.neD K rfl (un64 hr)) (pe_ix (Rk.ixT K) (pv 0) (pv 3) (fun _ _ => rfl)) (pe_callTy (Rk.tup K) rfl T.tuple (by decide +kernel) (pa_cons (pe_lc (own := [("yz", 4)]) rfl sc__is_associative.nd (Rk.pt K rfl (pe_ix (Rk.ixT K) (pv 0) (pv 2) (fun _ _ => rfl))) (blkOk_by (own := [("yz", 4)]) (N := ["rows", "row", "y", "product", "yz"]) (sc := defScope s__is_associative) (by decide +kernel)) (fun _ _ _ _ _ => (pg_name (i := 4) sc__is_associative.nd rfl (Or.inl rfl))) (fun _ _ _ _ _ => pts_nil) (fun _ _ _ _ _ => (pe_ix (Rk.ixT K) (pv 1) (pv 4) (fun _ _ => rfl)))) pa_nil)) (nomark _))
  (pss_one (ps_ret pe_bl))
  pss_nil)))))
  (pss_one (ps_ret pe_bl))), ?_⟩
  have hl : (rs.map V.ref).length = t.length := by rw [List.length_map, rw_.len]
  have tp := S.pos
  walk_at "st"
  refine Rd.itt' (hR.sq) ?_
  refine for_tup (K := K) (a := R) (xs := rs.map V.ref) (fun i σ H' => ∃ (v1 v2 v3 : Option V), σ = [some (.ref R), v1, v2, v3, none] ∧ Same H H' ∧ ∀ x y z, x < i → y < t.length → z < t.length → at2 t (at2 t x y).toNat z = at2 t x (at2 t y z).toNat)
    ⟨none, none, none, rfl, Same.refl _, fun x y z h => by omega⟩ (fun i σ H' _ ⟨_, _, _, _, e, _⟩ => Rd.same_t e (hR.sq)) ?_ ?_
  · rintro i x σ H' hx ⟨v1, v2, v3, rfl, e, sf⟩
    obtain ⟨a, r, rfl, h1, h2, h3⟩ := rw_.at hx
    have hi : i < t.length := by rw [← hl]; exact (List.getElem?_eq_some_iff.mp hx).1
    have lr := (S.row r (List.mem_of_getElem? h2)).1
    walk_at "st"
    refine ⟨a, r.map V.int, rfl, (h3.same e).sq, ?_⟩
    refine Rx.for_enumT (K := K) (a := a) (xs := r.map V.int) (fun y σ H' => ∃ (v2 v3 : Option V), σ = [some (.ref R), some (.ref a), v2, v3, none] ∧ Same H H' ∧ ∀ y' z, y' < y → z < t.length → at2 t (at2 t i y').toNat z = at2 t i (at2 t y' z).toNat)
      ⟨v2, v3, rfl, e, fun y z h => by omega⟩ (fun y σ H' ⟨_, _, _, e, _⟩ => (h3.same e).sq) ?_ ?_
    · rintro y q TT σ H2 hy ⟨v2, v3, rfl, e2, sf2⟩ hT
      obtain ⟨p, hp, rfl⟩ := intAt hy
      have hyn : y < t.length := by
        have := (List.getElem?_eq_some_iff.mp hp).1
        omega
      have e3 : Same H (upd H2 TT (.tup [.int (y : Nat), .int p])) := Rd.same_add e2 hT
      refine Rd.gtup2 (SqT.of upd_same) ?_
      generalize upd H2 TT (.tup [.int (y : Nat), .int p]) = H3 at e3
      have ep : at2 t i y = p := at2_of h2 hp
      obtain ⟨p0, p1, _⟩ := S.at hi hyn
      rw [ep] at p0 p1
      obtain ⟨ap, rp, k1, k2, k3⟩ := rw_.get (i := p.toNat) (by omega)
      obtain ⟨ay, ry, m1, m2, m3⟩ := rw_.get hyn
      have lrp := (S.row rp (List.mem_of_getElem? k2)).1
      have lry := (S.row ry (List.mem_of_getElem? m2)).1
      walk_at "st"
      refine Rd.ixT ((hR.same e3).sq) (at_of (j := p.toNat) (v := .ref ap) (by omega) (by rw [List.getElem?_map, k1]; rfl)) ?_
      walk_at "st"
      refine Rd.ixT ((hR.same e3).sq) (at_of (j := y) (v := .ref ay) rfl (by rw [List.getElem?_map, m1]; rfl)) ?_
      refine Rd.itt' ((m3.same e3).sq) ?_
      refine Rd.lcMap (fun z => .int (at2 t i (at2 t y z).toNat)) (Rd.src_tup ((m3.same e3).sq)) (by rw [List.length_map]; omega) (by intro _; rfl) (fun z q H4 Q1 hq e4 q1 => ?_) (fun p5 H4 hp5 e4 h5 => ?_)
      · obtain ⟨u, hu, rfl⟩ := intAt hq
        have hz : z < t.length := by
          have := (List.getElem?_eq_some_iff.mp hu).1
          omega
        have eu : at2 t y z = u := at2_of m2 hu
        rw [eu] at q1
        obtain ⟨u0, u1, _⟩ := S.at hyn hz
        rw [eu] at u0 u1
        obtain ⟨_, _, r', w1, w2⟩ := S.at hi (y := u.toNat) (by omega)
        rw [h2] at w1
        cases w1
        walk_at "st"
        refine Rd.ixT (((h3.same e3).same e4).sq) (at_of (j := u.toNat) (v := .int (at2 t i u.toNat)) (by omega) (by rw [List.getElem?_map, w2]; rfl)) ?_
        exact q1 _ (Same.refl _)
      · walk_at "st"
        refine ⟨p5, _, rfl, .inl ⟨SqL.of h5, fun l ob hl3 hob => ?_⟩⟩
        have e5 := Rd.same_mk (o := .frz ob (.tup ((List.range (ry.map V.int).length).map fun z => V.int (at2 t i (at2 t y z).toNat)))) hl3
        have hL : TupN (upd H4 l (.frz ob (.tup ((List.range (ry.map V.int).length).map fun z => V.int (at2 t i (at2 t y z).toNat))))) l (((List.range t.length).map fun z => at2 t i (at2 t y z).toNat).map V.int) := by
          have q := TupN.mk (H := H4) (a := l) (xs := (List.range (ry.map V.int).length).map fun z => V.int (at2 t i (at2 t y z).toNat)) hob
          rw [← map_in]
          rw [List.length_map, lry] at q ⊢
          exact q
        generalize upd H4 l (.frz ob (.tup ((List.range (ry.map V.int).length).map fun z => V.int (at2 t i (at2 t y z).toNat)))) = H5 at e5 hL
        walk_at "st"
        refine Rd.neTT ((((k3.same e3).same e4).same e5).sq) hL.sq ?_
        walk_at "st"
        have row : rp = ((List.range t.length).map fun z => at2 t i (at2 t y z).toNat) ↔ ∀ z, z < t.length → at2 t p.toNat z = at2 t i (at2 t y z).toNat := by
          constructor
          · intro h z hz
            refine at2_of k2 ?_
            rw [h, List.getElem?_map, List.getElem?_range hz]; rfl
          · intro h
            refine List.ext_getElem? fun z => ?_
            by_cases c : z < t.length
            · have h5 : rp[z]? = some rp[z] := List.getElem?_eq_getElem (by omega)
              have h6 := h z c
              rw [at2_of k2 h5] at h6
              rw [h5, h6, List.getElem?_map, List.getElem?_range c]; rfl
            · rw [List.getElem?_eq_none (by omega), List.getElem?_eq_none (by simp; omega)]
        have e6 := Same.trans e3 (Same.trans e4 e5)
        refine Rd.ite_n (fun c => ?_) (fun c => ?_)
        · walk_at "st"
          refine k false _ ?_ e6
          simp
          intro h
          refine c (row.mpr fun z hz => ?_)
          have := h i y z hi hyn hz
          rw [ep] at this
          exact this
        · walk_at "st"
          refine ⟨_, _, rfl, e6, fun y' z h h' => ?_⟩
          by_cases q : y' < y
          · exact sf2 y' z q h'
          · have : y' = y := by omega
            rw [this, ep]
            exact row.mp c z h'
    · rintro σ H2 ⟨v2, v3, rfl, e2, sf2⟩
      refine ⟨_, _, _, rfl, e2, fun x y z hx hy hz => ?_⟩
      by_cases q : x < i
      · exact sf x y z q hy hz
      · have : x = i := by omega
        rw [this]
        exact sf2 y z (by rw [List.length_map, lr]; exact hy) hz
  · rintro σ H' ⟨v1, v2, v3, rfl, e, sf⟩
    walk_at "st"
    refine k true H' ?_ e
    simp
    intro x y z hx hy hz
    exact sf x y z (by rw [hl]; exact hx) hy hz
end
/-! ### Group.__init__ -/
abbrev gC (K : PySem.W.Frag) : Addr := He.ga K "Group"
abbrev eL (K : PySem.W.Frag) : Addr := He.ga K "LimitExceeded"
abbrev eG (K : PySem.W.Frag) : Addr := He.ga K "InvalidGroup"
abbrev eE (K : PySem.W.Frag) : Addr := He.ga K "InvalidElement"
def sp_init (K : PySem.W.Frag) : Sp := fun vs H Q E => ∃ (g dx a : Addr) (as : List Addr) (t : List (List Int)), vs = [.ref g, .ref a] ∧ H g = some (.ins (gC K) dx []) ∧ H a = some (.lst (as.map V.ref)) ∧ Rows LstN H as t ∧ t.length ≤ 1000 ∧
  (32 < t.length → E (.ref (eL K)) none H) ∧ (t.length ≤ 32 → ¬ Grp t → ∀ H', Same H H' → E (.ref (eG K)) none H') ∧
  (t.length ≤ 32 → Grp t → ∀ H', (∀ b o, b ≠ g → H b = some o → H' b = some o) → GrpAt (gC K) H' g t → Q .non H')
section
variable {P : Program} {w : World} {K : PySem.W.Frag} {mg : Str → Option Value} {base : Heap} {f : Addr} {fd : FuncData}
theorem idx_of {r : List Int} (h : (0 : Int) ∈ r) : r[r.idxOf 0]? = some 0 ∧ ∀ m, m < r.idxOf 0 → r[m]? ≠ some 0 := by
  have h1 : r.idxOf 0 < r.length := List.idxOf_lt_length_of_mem h
  refine ⟨by rw [List.getElem?_eq_getElem h1]; exact congrArg some (List.getElem_idxOf h1), fun m hm e => ?_⟩
  obtain ⟨h2, h3⟩ := List.getElem?_eq_some_iff.mp e
  have := List.not_of_lt_findIdx (p := fun x => x == (0 : Int)) (xs := r) (i := m) hm
  rw [h3] at this
  simp at this
abbrev s_Group___init__ : Stmt := (inClass (top 9) 0)
theorem sc_Group___init__ : FnScope ["self", "table", "rows", "row"] ["self", "table"] (defScope s_Group___init__) := ⟨rfl, rfl, rfl, by decide +kernel, rfl, by decide +kernel, by decide +kernel⟩
theorem ok_init (F : FnP K "__init__" "Group.__init__" s_Group___init__ f fd) (T : Txt K mg) (D__has_shape : DOk P w K mg base CX0 "_has_shape" 1 ["rows"] sp_shape) (D__has_identity : DOk P w K mg base CX0 "_has_identity" 1 ["rows"] sp_idn)
    (D__has_inverses : DOk P w K mg base CX0 "_has_inverses" 1 ["rows"] sp_invs) (D__is_associative : DOk P w K mg base CX0 "_is_associative" 1 ["rows"] sp_asc) : FnOk P w K mg base (L2.CX P w) 2 f fd ["self", "table"] (sp_init K) := by
  refine F.ok sc_Group___init__ (fun vs H Q E h => ?_) (fun cdv A outer s H vs Q E hr h => ?_)
  · obtain ⟨_, _, _, _, _, rfl, _⟩ := h; rfl
  obtain ⟨g, dx, a, as, t, rfl, hg, ha, rw_, hz, kL, kG, k⟩ := h
  obtain ⟨tL, g_LIMIT⟩ := T.LIMIT
  refine ⟨_, (pss_cons (ps_if (pt_cmpR op_gt (pe_callB (Rk.len K) rfl T.len PySem.boot_len (pa_cons (pv 1) pa_nil)) (pe_glob (v := .int 32) rfl g_LIMIT ⟨_, rfl⟩) (nomark _))
  (pss_one (ps_raise rfl (takes_of rfl rfl rfl rfl) (pmk_own PySem.F.excBase_ValueError T.ex_LimitExceeded.xP T.ex_LimitExceeded.gP T.ex_LimitExceeded.kP (raises_own T.ex_LimitExceeded.bP T.ex_LimitExceeded.tP) rfl)))
  pss_nil)
  (pss_cons (ps_set (i := 2) sc_Group___init__.nd rfl (Or.inl rfl) (pe_callTy (Rk.tup K) rfl T.tuple (by decide +kernel) (pa_cons (pe_lc (own := [("row", 3)]) rfl sc_Group___init__.nd (Rk.pl K rfl (pv 1)) (blkOk_by (own := [("row", 3)]) (N := ["self", "table", "rows", "row"]) (sc := defScope s_Group___init__) (by decide +kernel)) (fun _ _ _ _ _ => (pg_name (i := 3) sc_Group___init__.nd rfl (Or.inl rfl))) (fun _ _ _ _ _ => pts_nil) (fun _ _ _ _ _ => (pe_callTy (Rk.tup K) rfl T.tuple (by decide +kernel) (pa_cons (pv 3) pa_nil)))) pa_nil)))
  (pss_cons (ps_if (pt_not (pt_val (callX D__has_shape (hr.mono (by decide)) (passN) (pa_cons (pv 2) pa_nil))))
  (pss_one (ps_raise rfl (takes_of rfl rfl rfl rfl) (pmk_own PySem.F.excBase_ValueError T.ex_InvalidGroup.xP T.ex_InvalidGroup.gP T.ex_InvalidGroup.kP (raises_own T.ex_InvalidGroup.bP T.ex_InvalidGroup.tP) rfl)))
  pss_nil)
  (pss_cons (ps_if (pt_not (pt_val (callX D__has_identity (hr.mono (by decide)) (passN) (pa_cons (pv 2) pa_nil))))
  (pss_one (ps_raise rfl (takes_of rfl rfl rfl rfl) (pmk_own PySem.F.excBase_ValueError T.ex_InvalidGroup.xP T.ex_InvalidGroup.gP T.ex_InvalidGroup.kP (raises_own T.ex_InvalidGroup.bP T.ex_InvalidGroup.tP) rfl)))
  pss_nil)
  (pss_cons (ps_if (pt_not (pt_val (callX D__has_inverses (hr.mono (by decide)) (passN) (pa_cons (pv 2) pa_nil))))
  (pss_one (ps_raise rfl (takes_of rfl rfl rfl rfl) (pmk_own PySem.F.excBase_ValueError T.ex_InvalidGroup.xP T.ex_InvalidGroup.gP T.ex_InvalidGroup.kP (raises_own T.ex_InvalidGroup.bP T.ex_InvalidGroup.tP) rfl)))
  pss_nil)
  (pss_cons (ps_if (pt_not (pt_val (callX D__is_associative (hr.mono (by decide)) (passN) (pa_cons (pv 2) pa_nil))))
  (pss_one (ps_raise rfl (takes_of rfl rfl rfl rfl) (pmk_own PySem.F.excBase_ValueError T.ex_InvalidGroup.xP T.ex_InvalidGroup.gP T.ex_InvalidGroup.kP (raises_own T.ex_InvalidGroup.bP T.ex_InvalidGroup.tP) rfl)))
  pss_nil)
  (pss_cons (ps_fld (pv 0) (pe_callB (Rk.len K) rfl T.len PySem.boot_len (pa_cons (pv 2) pa_nil)) rfl)
  (pss_cons (ps_fld (pv 0) (pv 2) rfl)
  (pss_one (ps_fld (pv 0) (pe_callTy (Rk.tup K) rfl T.tuple (by decide +kernel) (pa_cons (pe_lc (own := [("row", 3)]) rfl sc_Group___init__.nd (Rk.pt K rfl (pv 2)) (blkOk_by (own := [("row", 3)]) (N := ["self", "table", "rows", "row"]) (sc := defScope s_Group___init__) (by decide +kernel)) (fun _ _ _ _ _ => (pg_name (i := 3) sc_Group___init__.nd rfl (Or.inl rfl))) (fun _ _ _ _ _ => pts_nil) (fun _ _ _ _ _ => (Rk.bt K rfl PySem.F.plainAttrs_tuple PySem.F.slot_tuple_index PySem.F.type_tuple_index (Rk.tindex K) (pv 3) (pa_cons pe_int pa_nil)))) pa_nil)) rfl)))))))))), ?_⟩
  have hl : (as.map V.ref).length = t.length := by rw [List.length_map, rw_.len]
  walk_at "st"
  refine Rd.len1 (.inl (SqL.of ha)) ?_
  walk_at "st"
  rw [hl]
  refine Rd.ite_d (fun c => kL (by omega)) (fun c => ?_)
  have h32 : t.length ≤ 32 := by omega
  walk_at "st"
  refine Rd.itl' (SqL.of ha) ?_
  refine Rd.lcNew (fun n o => ∃ ob : Obj, ob.dict = none ∧ o = .frz ob (.tup ((t.getD n []).map V.int))) (Rd.src_list (SqL.of ha)) (by omega) (by intro _; rfl) (fun n y H3 Q1 hy e3 q1 => ?_) (fun p rs H3 hp e3 h5 lrs hrs nd => ?_)
  · obtain ⟨b, r, rfl, h1, h2, h3⟩ := rw_.at hy
    walk_at "st"
    refine ⟨b, _, rfl, .inl ⟨SqL.of (e3 _ _ h3), fun l ob hl3 hob => ?_⟩⟩
    exact q1 l _ _ hl3 (Rd.same_mk hl3) (by rw [upd_same]) ⟨ob, hob, by rw [getD_of h2]⟩
  walk_at "st"
  refine ⟨p, _, rfl, .inl ⟨SqL.of h5, fun R oR hR3 hoR => ?_⟩⟩
  have e4 : Same H (upd H3 R (.frz oR (.tup (rs.map V.ref)))) := Rd.same_add e3 hR3
  have hR : TupN (upd H3 R (.frz oR (.tup (rs.map V.ref)))) R (rs.map V.ref) := TupN.mk hoR
  have rt : Rows TupN (upd H3 R (.frz oR (.tup (rs.map V.ref)))) rs t := ⟨by rw [lrs, hl], fun i b r h1 h2 => by
    obtain ⟨_, h6, ob, hob, rfl⟩ := (hrs i b h1).1
    rw [getD_of h2] at h6
    exact ⟨ob, hob, by rw [upd_ne (ne_of_none h6 hR3)]; exact h6⟩⟩
  have nRg : R ≠ g := fun z => by rw [z, e3 _ _ hg] at hR3; cases hR3
  have nrg : ∀ i b, rs[i]? = some b → b ≠ g := fun i b h1 z => by have := (hrs i b h1).2.1; rw [z, hg] at this; cases this
  generalize upd H3 R (.frz oR (.tup (rs.map V.ref))) = H4 at e4 hR rt
  walk_at "st"
  refine ⟨R, rs, t, rfl, hR, rt, h32, fun b H5 hb e5 => ?_⟩
  walk_at "st"
  refine Rd.ite_nb (fun c1 => kG h32 (fun G => ?_) _ (e4.trans e5)) (fun c1 => ?_)
  · rw [hb.mpr G.sq] at c1; cases c1
  have S := hb.mp c1
  walk_at "st"
  refine ⟨R, rs, t, rfl, hR.same e5, rt.same e5, h32, S, fun b H6 hb e6 => ?_⟩
  walk_at "st"
  refine Rd.ite_nb (fun c2 => kG h32 (fun G => ?_) _ (e4.trans (e5.trans e6))) (fun c2 => ?_)
  · rw [hb.mpr G.idn] at c2; cases c2
  have S2 := hb.mp c2
  walk_at "st"
  refine ⟨R, rs, t, rfl, (hR.same e5).same e6, (rt.same e5).same e6, h32, fun b H7 hb e7 => ?_⟩
  walk_at "st"
  refine Rd.ite_nb (fun c3 => kG h32 (fun G => ?_) _ (e4.trans (e5.trans (e6.trans e7)))) (fun c3 => ?_)
  · rw [hb.mpr G.inv] at c3; cases c3
  have S3 := hb.mp c3
  walk_at "st"
  refine ⟨R, rs, t, rfl, ((hR.same e5).same e6).same e7, ((rt.same e5).same e6).same e7, h32, S, fun b H8 hb e8 => ?_⟩
  walk_at "st"
  refine Rd.ite_nb (fun c4 => kG h32 (fun G => ?_) _ (e4.trans (e5.trans (e6.trans (e7.trans e8))))) (fun c4 => ?_)
  · rw [hb.mpr G.asc] at c4; cases c4
  have S4 := hb.mp c4
  have e9 : Same H4 H8 := e5.trans (e6.trans (e7.trans e8))
  have hR8 := hR.same e9
  have rt8 := rt.same e9
  have hg8 := e9 _ _ (e4 _ _ hg)
  have e10 := e4.trans e9
  walk_at "st"
  refine Rd.len1 (.inr (hR8.sq)) ?_
  walk_at "st"
  rw [List.length_map, lrs, hl]
  refine ⟨g, gC K, dx, [], rfl, hg8, T.cl, T.nO, by decide, ?_⟩
  walk_at "st"
  refine ⟨g, gC K, dx, _, rfl, upd_same, T.cl, T.nR, by show 1 < 1000; decide, ?_⟩
  walk_at "st"
  have hR10 : ∀ o1 o2, TupN (upd (upd H8 g o1) g o2) R (rs.map V.ref) := fun o1 o2 => (hR8.put nRg).put nRg
  have hr10 : ∀ o1 o2, Rows TupN (upd (upd H8 g o1) g o2) rs t := fun o1 o2 => ⟨rt8.len, fun i b r h1 h2 => ((rt8.row i b r h1 h2).put (nrg i b h1)).put (nrg i b h1)⟩
  have e12 : ∀ o1 o2, ∀ b o, b ≠ g → H b = some o → (upd (upd H8 g o1) g o2) b = some o := fun o1 o2 b o n h => by rw [upd_ne n, upd_ne n]; exact e10 _ _ h
  refine Rd.itt' (hR10 _ _).sq ?_
  refine Rd.lcMap (fun n => .int (((t.getD n []).idxOf 0 : Nat) : Int)) (Rd.src_tup (hR10 _ _).sq) (by rw [List.length_map, lrs]; omega) (by intro _; rfl) (fun n y H9 Q1 hy e11 q1 => ?_) (fun p2 H9 hp2 e11 h12 => ?_)
  · obtain ⟨b, r, rfl, h1, h2, h3⟩ := (hr10 _ _).at hy
    rw [getD_of h2] at q1
    obtain ⟨w1, w2⟩ := idx_of (S3 r (List.mem_of_getElem? h2))
    have h4 := h3.same e11
    walk_at "st"
    refine ⟨⟨_, _, rfl, h4⟩, ?_⟩
    walk_at "st"
    exact ⟨b, r, 0, _, rfl, rfl, h4.sq, w1, w2, q1 _ (Same.refl _)⟩
  walk_at "st"
  refine ⟨p2, _, rfl, .inl ⟨SqL.of h12, fun I oI hI9 hoI => ?_⟩⟩
  have e13 := Rd.same_mk (o := .frz oI (.tup ((List.range (rs.map V.ref).length).map fun n => V.int (((t.getD n []).idxOf 0 : Nat) : Int)))) hI9
  have hI : TupN (upd H9 I (.frz oI (.tup ((List.range (rs.map V.ref).length).map fun n => V.int (((t.getD n []).idxOf 0 : Nat) : Int))))) I ((invs t).map V.int) := by
    have q := TupN.mk (H := H9) (a := I) (xs := (List.range (rs.map V.ref).length).map fun n => V.int (((t.getD n []).idxOf 0 : Nat) : Int)) hoI
    have z : (List.range (rs.map V.ref).length).map (fun n => V.int (((t.getD n []).idxOf 0 : Nat) : Int)) = (invs t).map V.int := by
      rw [List.length_map, lrs, hl]
      refine List.ext_getElem? fun i => ?_
      unfold invs
      rw [List.map_map, List.getElem?_map, List.getElem?_map]
      by_cases c : i < t.length
      · rw [List.getElem?_range c, List.getElem?_eq_getElem c]
        simp only [Option.map_some, Function.comp_apply]
        rw [getD_of (List.getElem?_eq_getElem c)]
      · rw [List.getElem?_eq_none (by simp; omega), List.getElem?_eq_none (by omega)]; rfl
    rw [z] at q ⊢
    exact q
  generalize upd H9 I (.frz oI (.tup ((List.range (rs.map V.ref).length).map fun n => V.int (((t.getD n []).idxOf 0 : Nat) : Int)))) = H10 at e13 hI
  have e14 := e11.trans e13
  walk_at "st"
  have nIg : I ≠ g := fun z => by
    rw [z, e11 _ _ upd_same] at hI9
    cases hI9
  refine ⟨g, gC K, dx, _, rfl, e14 _ _ upd_same, T.cl, T.nI, put2_len _ _, ?_⟩
  rw [put3]
  refine k h32 ⟨S, S2, S3, S4⟩ _ (fun b o n h => by rw [upd_ne n]; exact e14 _ _ (e12 _ _ b o n h)) ⟨⟨S, S2, S3, S4⟩, h32, dx, R, I, rs, upd_same, ((hR10 _ _).same e14).put nRg, ?_, hI.put nIg⟩
  exact ⟨rt8.len, fun i b r h1 h2 => (((hr10 _ _).row i b r h1 h2).same e14).put (nrg i b h1)⟩
end
end K10

set_option Elab.async false
set_option linter.all false
set_option maxRecDepth 100000
set_option maxHeartbeats 4000000
namespace K10
open PySem L2 Rd GT
local macro_rules | `(tactic| walk_at "st1") => `(tactic| with_reducible first
  | refine' Rd.seq ?_ | refine' Rd.nxt ?_ | refine' Rd.asg ?_ | refine' Rd.nm ?_ | refine' Rd.con ?_ | refine' Rd.op ?_ | refine' Rd.i0 ?_ | refine' Rd.un ?_ | refine' Rd.u0 ?_
  | refine' Rd.eqI ?_ | refine' Rd.neI ?_ | refine' Rd.eqB ?_ | refine' Rd.tst ?_ | refine' Rd.tB_ ?_ | refine' Rd.exb ?_ | refine' Rd.ifS ?_ | refine' Rd.ret ?_ | refine' Rd.retN ?_ | refine' Rd.drop ?_
  | refine' Rd.nil ?_ | refine' Rd.cons ?_ | refine' Rd.cb ?_ | refine' Rd.call ?_ | refine' Rd.callN ?_ | refine' Rd.andT ?_ | refine' Rd.orT ?_ | refine' Rd.notT ?_ | refine' Rd.andV ?_ | refine' Rd.orV ?_ | refine' Rd.notV ?_ | refine' Rd.chain ?_
  | refine' Rd.lst ?_ | refine' Rd.tup ?_ | refine' Rd.for_ ?_ | refine' Rd.rng1 ?_ | refine' Rd.rng2 ?_ | refine' Rd.itl ?_ | refine' Rd.itt ?_ | refine' Rd.sub ?_
  | refine' Rd.lrg ?_ | refine' Rd.rg1 ?_ | refine' Rd.rg2 ?_ | refine' Rd.exi ?_ | refine' Rd.exi2 ?_ | refine' Rd.int1 ?_ | refine' Rd.ex1 ?_ | refine' Rd.ex2 ?_
  | refine' Rd.fld ?_ | refine' Rd.sfld ?_ | refine' Rd.meth ?_ | refine' Rd.make ?_ | refine' Rd.lc ?_ | refine' Rd.bm ?_ | refine' Rd.bm0 ?_ | refine' Rd.bt ?_ | refine' Rd.enT ?_ | refine' Rd.enL ?_)
local macro_rules | `(tactic| walk_at "st") => `(tactic| repeat (first | walk_at "st1" | ((with_reducible refine' Rd.var ?hv ?_); (case hv => rfl))))
local macro_rules | `(tactic| walk_at "sj1") => `(tactic| with_reducible first
  | refine' Rd.seqA ?_ | refine' Rd.seqD ?_ | refine' Rd.seqF ?_ | refine' Rd.seqW ?_ | refine' Rd.nxt ?_ | refine' Rd.asg ?_ | refine' Rd.nm ?_ | refine' Rd.con ?_ | refine' Rd.op ?_ | refine' Rd.i0 ?_ | refine' Rd.un ?_ | refine' Rd.u0 ?_
  | refine' Rd.eqI ?_ | refine' Rd.neI ?_ | refine' Rd.eqB ?_ | refine' Rd.tst ?_ | refine' Rd.tB_ ?_ | refine' Rd.exb ?_ | refine' Rd.ifS ?_ | refine' Rd.ret ?_ | refine' Rd.retN ?_ | refine' Rd.drop ?_
  | refine' Rd.nil ?_ | refine' Rd.cons ?_ | refine' Rd.cb ?_ | refine' Rd.call ?_ | refine' Rd.callN ?_ | refine' Rd.andT ?_ | refine' Rd.orT ?_ | refine' Rd.notT ?_ | refine' Rd.andV ?_ | refine' Rd.orV ?_ | refine' Rd.notV ?_ | refine' Rd.chain ?_
  | refine' Rd.lst ?_ | refine' Rd.tup ?_ | refine' Rd.for_ ?_ | refine' Rd.rng1 ?_ | refine' Rd.rng2 ?_ | refine' Rd.itl ?_ | refine' Rd.itt ?_ | refine' Rd.sub ?_
  | refine' Rd.lrg ?_ | refine' Rd.rg1 ?_ | refine' Rd.rg2 ?_ | refine' Rd.exi ?_ | refine' Rd.exi2 ?_ | refine' Rd.int1 ?_ | refine' Rd.ex1 ?_ | refine' Rd.ex2 ?_
  | refine' Rd.fld ?_ | refine' Rd.sfld ?_ | refine' Rd.meth ?_ | refine' Rd.make ?_ | refine' Rd.lc ?_ | refine' Rd.bm ?_ | refine' Rd.bm0 ?_ | refine' Rd.bt ?_ | refine' Rd.enT ?_ | refine' Rd.enL ?_)
local macro_rules | `(tactic| walk_at "sj") => `(tactic| repeat (first | walk_at "sj1" | ((with_reducible refine' Rd.var ?hv ?_); (case hv => rfl))))
/-! ### the methods -/
def InG (t : List (List Int)) (ns : List Int) : Prop := ∀ x ∈ ns, 0 ≤ x ∧ x < (t.length : Int)
def sp_req (K : PySem.W.Frag) : Sp := fun vs H Q E => ∃ (g a : Addr) (t : List (List Int)) (ns : List Int), vs = [.ref g, .ref a] ∧ GrpAt (gC K) H g t ∧ H a = some (.lst (ns.map V.int)) ∧ (InG t ns → ∀ H', Same H H' → Q .non H') ∧ (¬ InG t ns → ∀ H', Same H H' → E (.ref (eE K)) none H')
section
variable {P : Program} {w : World} {K : PySem.W.Frag} {mg : Str → Option Value} {base : Heap} {f : Addr} {fd : FuncData}
abbrev s_Group_require : Stmt := (inClass (top 9) 2)
theorem sc_Group_require : FnScope ["self", "members", "member"] ["self", "members"] (defScope s_Group_require) := ⟨rfl, rfl, rfl, by decide +kernel, rfl, by decide +kernel, by decide +kernel⟩
theorem ok_req (F : FnP K "require" "Group.require" s_Group_require f fd) (T : Txt K mg) : FnOk P w K mg base (L2.CX P w) 1 f fd ["self", "members"] (sp_req K) := by
  refine F.ok sc_Group_require (fun vs H Q E h => ?_) (fun cdv A outer s H vs Q E hr h => ?_)
  · obtain ⟨_, _, _, _, rfl, _⟩ := h; rfl
  obtain ⟨g, a, t, ns, rfl, G, ha, k, kE⟩ := h
  obtain ⟨dx, R, I, rs, hg, hR, hr, hI⟩ := G.ob
  refine ⟨_, (pss_one (ps_for (passes_of rfl) rfl (Rk.pl K rfl (pv 1)) (pg_name (i := 2) sc_Group_require.nd rfl (Or.inl rfl))
  (pss_one (ps_if (pt_not (pt_chain op_le op_lt pe_int (pv 2) (Rk.fld K rfl (pv 0) rfl)))
  (pss_one (ps_raise rfl (takes_of rfl rfl rfl rfl) (pmk_own PySem.F.excBase_ValueError T.ex_InvalidElement.xP T.ex_InvalidElement.gP T.ex_InvalidElement.kP (raises_own T.ex_InvalidElement.bP T.ex_InvalidElement.tP) rfl)))
  pss_nil)))), ?_⟩
  walk_at "st"
  refine Rd.itl' (SqL.of ha) ?_
  refine for_list (K := K) (a := a) (xs := ns.map V.int) (fun i σ H' => ∃ (v : Option V), σ = [some (.ref g), some (.ref a), v] ∧ Same H H' ∧ ∀ j x, j < i → ns[j]? = some x → 0 ≤ x ∧ x < (t.length : Int))
    ⟨none, rfl, Same.refl _, fun j x h => by omega⟩ (fun i σ H' _ ⟨_, _, e, _⟩ => SqL.of (e _ _ ha)) ?_ ?_
  · rintro i x σ H' hx ⟨v, rfl, e, sf⟩
    obtain ⟨z, hz, rfl⟩ := intAt hx
    walk_at "st"
    refine Rd.ite_d (fun c1 => ?_) (fun c1 => ?_)
    · walk_at "st"
      refine Rd.fld' (e _ _ hg) T.cl T.nO (lk_order _ _ _) ?_
      walk_at "st"
      refine Rd.ite_n (fun c2 => ?_) (fun c2 => ?_)
      · exact kE (fun h => c2 (h z (List.mem_of_getElem? hz)).2) H' e
      · walk_at "st"
        refine ⟨_, rfl, e, fun j x hj hx => ?_⟩
        by_cases q : j < i
        · exact sf j x q hx
        · rw [show j = i by omega, hz] at hx
          cases hx
          exact ⟨c1, c2⟩
    · walk_at "st"
      exact kE (fun h => c1 (h z (List.mem_of_getElem? hz)).1) H' e
  · rintro σ H' ⟨v, rfl, e, sf⟩
    walk_at "st"
    refine k (fun x hx => ?_) H' e
    obtain ⟨j, hj, rfl⟩ := List.getElem_of_mem hx
    exact sf j _ (by rw [List.length_map]; exact hj) (List.getElem?_eq_getElem hj)
end
theorem in1 {t : List (List Int)} {x : Int} (h : InG t [x]) : 0 ≤ x ∧ x < (t.length : Int) := h x (List.mem_singleton.mpr rfl)
theorem in2 {t : List (List Int)} {x y : Int} (h : InG t [x, y]) : (0 ≤ x ∧ x < (t.length : Int)) ∧ 0 ≤ y ∧ y < (t.length : Int) := ⟨h x (by simp), h y (by simp)⟩
theorem invs_at {t : List (List Int)} {x : Nat} (h : x < t.length) : ((invs t).map V.int)[x]? = some (.int (ivn t x : Nat)) := by
  unfold invs
  rw [List.map_map, List.getElem?_map, List.getElem?_eq_getElem h]
  unfold ivn
  rw [getD_of (List.getElem?_eq_getElem h)]; rfl
def sp_gen (K : PySem.W.Frag) : Sp := fun vs H Q E => ∃ (g a : Addr) (t : List (List Int)) (ns : List Int), vs = [.ref g, .ref a] ∧ GrpAt (gC K) H g t ∧ H a = some (.lst (ns.map V.int)) ∧
  (InG t ns → ∀ l out H', Closed t ns out → H l = none → Same H H' → H' l = some (.lst (out.map V.int)) → Q (.ref l) H') ∧ (¬ InG t ns → ∀ H', Same H H' → E (.ref (eE K)) none H')
theorem line_of {n : Nat} (h : n ≤ 1000) : n < sizeLine := Nat.lt_of_le_of_lt h (by decide)
section
variable {P : Program} {w : World} {K : PySem.W.Frag} {mg : Str → Option Value} {base : Heap} {f : Addr} {fd : FuncData}
abbrev s_Group_generated : Stmt := (inClass (top 9) 7)
theorem sc_Group_generated : FnScope ["self", "members", "found", "known", "at", "row", "member"] ["self", "members"] (defScope s_Group_generated) := ⟨rfl, rfl, rfl, by decide +kernel, rfl, by decide +kernel, by decide +kernel⟩
theorem ok_gen (F : FnP K "generated" "Group.generated" s_Group_generated f fd) (T : Txt K mg) (M_require : MOk P w K mg base (L2.CX P w) (gC K) "require" 1 ["self", "members"] (sp_req K)) : FnOk P w K mg base (L2.CX P w) 2 f fd ["self", "members"] (sp_gen K) := by
  refine F.ok sc_Group_generated (fun vs H Q E h => ?_) (fun cdv A outer s H vs Q E hr h => ?_)
  · obtain ⟨_, _, _, _, rfl, _⟩ := h; rfl
  obtain ⟨g, a, t, ns, rfl, G, ha, k, kE⟩ := h
  obtain ⟨dx, R, I, rs, hg, hR, hr_, hI⟩ := G.ob
  have g32 := G.le
  have S := G.grp.sq
  refine ⟨_, (pss_cons (ps_expr (methX M_require (hr.mono (by decide)) (passX rfl rfl rfl rfl) (pv 0) (pa_cons (pv 1) pa_nil)))
  (pss_cons (ps_set (i := 2) sc_Group_generated.nd rfl (Or.inl rfl) (pe_lst (pa_cons pe_int pa_nil)))
  (pss_cons (ps_set (i := 3) sc_Group_generated.nd rfl (Or.inl rfl) (pe_op op_rep (pe_lst (pa_cons pe_bl pa_nil)) (Rk.fld K rfl (pv 0) rfl)))
  (pss_cons (ps_asg pe_bl (pg_sub (pv 3) pe_int set_list))
  (pss_cons (ps_set (i := 4) sc_Group_generated.nd rfl (Or.inl rfl) pe_int)
  (pss_cons (ps_while (passes_of rfl) (pt_cmpR op_lt (pv 4) (pe_callB (Rk.len K) rfl T.len PySem.boot_len (pa_cons (pv 2) pa_nil)) (nomark _))
  (pss_cons (ps_set (i := 5) sc_Group_generated.nd rfl (Or.inl rfl) (pe_ix (Rk.ixT K) (Rk.fld K rfl (pv 0) rfl) (pe_ix (Rk.ixL K) (pv 2) (pv 4) (fun _ _ => rfl)) (fun _ _ => rfl)))
  (pss_cons (ps_for (passes_of rfl) rfl (Rk.pl K rfl (pv 1)) (pg_name (i := 6) sc_Group_generated.nd rfl (Or.inl rfl))
  (pss_one (ps_if (pt_not (pt_val (pe_ix (Rk.ixL K) (pv 3) (pe_ix (Rk.ixT K) (pv 5) (pv 6) (fun _ _ => rfl)) (fun _ _ => rfl))))
  (pss_cons (ps_asg pe_bl (pg_sub (pv 3) (pe_ix (Rk.ixT K) (pv 5) (pv 6) (fun _ _ => rfl)) set_list))
  (pss_one (ps_expr (Rk.bm K rfl PySem.F.plainAttrs_list PySem.F.slot_list_append PySem.F.type_list_append mt_append (pv 2) (pa_cons (pe_ix (Rk.ixT K) (pv 5) (pv 6) (fun _ _ => rfl)) pa_nil)))))
  pss_nil)))
  (pss_one (ps_set (i := 4) sc_Group_generated.nd rfl (Or.inl rfl) (pe_op op_add (pv 4) pe_int))))))
  (pss_one (ps_ret (pe_callB (Rk.sortI K) rfl T.sorted (by decide +kernel) (pa_cons (pv 2) pa_nil)))))))))), ?_⟩
  walk_at "st"
  refine ⟨g, dx, _, rfl, hg, lk_no (by decide +kernel) (by decide +kernel) (by decide +kernel) _ _ _, ?_⟩
  walk_at "st"
  refine ⟨g, a, t, ns, rfl, G, ha, fun ig H1 e1 => ?_, fun ig H1 e1 => kE ig _ e1⟩
  walk_at "st"
  refine ⟨(by decide : 1 ≤ sizeLine), fun fo hfo => ?_⟩
  walk_at "st"
  refine ⟨(by decide : 1 ≤ sizeLine), fun l0 hl0 => ?_⟩
  have e2 : Same H (upd (upd H1 fo (.lst [.int 0])) l0 (.lst [.bl false])) := (e1.trans (Rd.same_mk hfo)).trans (Rd.same_mk hl0)
  have n0 : fo ≠ l0 := fun z => by rw [← z, upd_same] at hl0; cases hl0
  have f0 : (upd (upd H1 fo (.lst [.int 0])) l0 (.lst [.bl false])) fo = some (.lst ([(0 : Int)].map V.int)) := by rw [upd_ne n0, upd_same]; rfl
  have l00 : (upd (upd H1 fo (.lst [.int 0])) l0 (.lst [.bl false])) l0 = some (.lst [.bl false]) := upd_same
  have fof := Same.free e1 hfo
  generalize upd (upd H1 fo (.lst [.int 0])) l0 (.lst [.bl false]) = H2 at e2 f0 l00
  walk_at "st"
  refine Rd.fld' (e2 _ _ hg) T.cl T.nO (lk_order _ _ _) ?_
  refine ⟨l0, (t.length : Int), _, rfl, rfl, l00, by omega, by omega, by show 1 * (t.length : Int).toNat ≤ sizeLine; exact Nat.le_of_lt (line_of (by omega)), fun kn hkn => ?_⟩
  have e3 := Rd.same_add (o := .lst (List.replicate (t.length : Int).toNat [V.bl false]).flatten) e2 hkn
  have nkf : kn ≠ fo := fun z => by rw [z, f0] at hkn; cases hkn
  have k0 : (upd H2 kn (.lst (List.replicate (t.length : Int).toNat [V.bl false]).flatten)) kn = some (.lst ((List.replicate t.length false).map V.bl)) := by
    rw [upd_same, Int.toNat_natCast]
    congr 2
    generalize t.length = m
    induction m with
    | zero => rfl
    | succ m ih => rw [List.replicate_succ, List.replicate_succ, List.flatten_cons, ih]; rfl
  have f1 : (upd H2 kn (.lst (List.replicate (t.length : Int).toNat [V.bl false]).flatten)) fo = some (.lst ([(0 : Int)].map V.int)) := by rw [upd_ne nkf.symm]; exact f0
  have knf := Same.free e2 hkn
  generalize upd H2 kn (.lst (List.replicate (t.length : Int).toNat [V.bl false]).flatten) = H3 at e3 k0 f1
  walk_at "st"
  refine Rd.setL (j := 0) k0 (ixN_of rfl (by rw [List.length_map, List.length_replicate]; exact S.pos)) ?_
  rw [map_set_bl]
  have e4 := Rd.same_mut (o := .lst (((List.replicate t.length false).set 0 true).map V.bl)) e3 knf
  have k1 : (upd H3 kn (.lst (((List.replicate t.length false).set 0 true).map V.bl))) kn = some (.lst (((List.replicate t.length false).set 0 true).map V.bl)) := upd_same
  have f2 : (upd H3 kn (.lst (((List.replicate t.length false).set 0 true).map V.bl))) fo = some (.lst ([(0 : Int)].map V.int)) := by rw [upd_ne nkf.symm]; exact f1
  generalize upd H3 kn (.lst (((List.replicate t.length false).set 0 true).map V.bl)) = H4 at e4 k1 f2
  walk_at "st"
  refine ⟨fun m σ H' => ∃ (at_ : Nat) (fs : List Int) (kb : List Bool) (v5 v6 : Option V), σ = [some (.ref g), some (.ref a), some (.ref fo), some (.ref kn), some (.int (at_ : Nat)), v5, v6] ∧ Same H H' ∧ H' fo = some (.lst (fs.map V.int)) ∧ H' kn = some (.lst (kb.map V.bl)) ∧
      GenF t ns fs ∧ GenK t.length fs kb ∧ at_ ≤ fs.length ∧ (∀ j x, j < at_ → fs[j]? = some x → ∀ m ∈ ns, at2 t x.toNat m.toNat ∈ fs) ∧ m = t.length - at_,
    ⟨_, 0, [0], _, none, none, rfl, e4, f2, k1, GenF.start t ns, GenK.start S.pos, Nat.zero_le _, fun j x h => by omega, rfl⟩, ?_⟩
  rintro m σ H' ⟨at_, fs, kb, v5, v6, rfl, e5, hf, hk, F1, K1, hat, cl, rfl⟩
  have few := F1.few S ig
  walk_at "st"
  refine Rd.len1 (.inl (SqL.of hf)) ?_
  walk_at "st"
  rw [List.length_map]
  refine Rd.ite_d (fun c => ⟨_, fun _ _ h => h, ?_⟩) (fun c => ?_)
  · have hlt : at_ < fs.length := by omega
    have hx : fs[at_]? = some fs[at_] := List.getElem?_eq_getElem hlt
    generalize fs[at_] = x at hx
    have xm := List.mem_of_getElem? hx
    obtain ⟨x0, x1⟩ := (F1.re x xm).lt S ig
    have hxn : x.toNat < t.length := by omega
    obtain ⟨ax, rx, q1, q2, q3⟩ := hr_.get hxn
    walk_at "st"
    refine Rd.fld' (e5 _ _ hg) T.cl T.nR (lk_rows _ _ _) ?_
    walk_at "st"
    refine Rd.ixL (SqL.of hf) (at_of (j := at_) rfl (map_get_int hx)) ?_
    refine Rd.ixT (hR.same e5).sq (at_of (j := x.toNat) (v := .ref ax) (by omega) (by rw [List.getElem?_map, q1]; rfl)) ?_
    walk_at "st"
    refine Rd.itl' (SqL.of (e5 _ _ ha)) ?_
    refine for_list (K := K) (a := a) (xs := ns.map V.int) (fun i σ H2 => ∃ (fs2 : List Int) (kb2 : List Bool) (v6 : Option V), σ = [some (.ref g), some (.ref a), some (.ref fo), some (.ref kn), some (.int (at_ : Nat)), some (.ref ax), v6] ∧ Same H H2 ∧ H2 fo = some (.lst (fs2.map V.int)) ∧ H2 kn = some (.lst (kb2.map V.bl)) ∧
        GenF t ns fs2 ∧ GenK t.length fs2 kb2 ∧ (∃ more, fs2 = fs ++ more) ∧ ∀ j m, j < i → ns[j]? = some m → at2 t x.toNat m.toNat ∈ fs2)
      ⟨fs, kb, v6, rfl, e5, hf, hk, F1, K1, ⟨[], (List.append_nil _).symm⟩, fun j m h => by omega⟩ (fun i σ H2 _ ⟨_, _, _, _, e, _⟩ => SqL.of (e _ _ ha)) ?_ ?_
    · rintro i y σ H2 hy ⟨fs2, kb2, v6, rfl, e6, hf2, hk2, F2, K2, ⟨more, rfl⟩, cl2⟩
      obtain ⟨z, hz, rfl⟩ := intAt hy
      have zm := List.mem_of_getElem? hz
      obtain ⟨z0, z1⟩ := ig z zm
      have hzn : z.toNat < t.length := by omega
      obtain ⟨p0, p1, r', w1, w2⟩ := S.at hxn hzn
      rw [q2] at w1
      cases w1
      have few2 := F2.few S ig
      have xm2 : x ∈ fs ++ more := List.mem_append_left _ xm
      have nd2 := F2.add xm2 zm
      have kg := K2.get p0 p1
      have ka := K2.add p0 p1
      have rw2 : atI (rx.map V.int) z = some (.int (at2 t x.toNat z.toNat)) := at_of (j := z.toNat) (by omega) (map_get_int w2)
      have stay : ∀ (fs3 : List Int), (∃ b, fs3 = fs ++ b) → (∀ j m, j < i → ns[j]? = some m → at2 t x.toNat m.toNat ∈ fs3) → at2 t x.toNat z.toNat ∈ fs3 → ∀ j m, j < i + 1 → ns[j]? = some m → at2 t x.toNat m.toNat ∈ fs3 := by
        intro fs3 _ h1 h2 j m hj hm
        by_cases q : j < i
        · exact h1 j m q hm
        · rw [show j = i by omega, hz] at hm
          cases hm
          exact h2
      have ne : ¬ at2 t x.toNat z.toNat ∈ fs ++ more → (fs ++ more).length < t.length := fun no => by
        have := (nd2 no).few S ig
        rw [List.length_append, List.length_singleton] at this
        omega
      walk_at "st"
      refine Rd.ixT (q3.same e6).sq rw2 ?_
      generalize at2 t x.toNat z.toNat = p at p0 p1 w2 nd2 kg ka rw2 stay ne
      refine Rd.ixL (SqL.of hk2) (at_of (j := p.toNat) (by omega) (map_get_bl kg)) ?_
      walk_at "st"
      refine Rd.ite_n (fun no => ?_) (fun yes => ?_)
      · walk_at "st"
        refine Rd.ixT (q3.same e6).sq rw2 ?_
        refine Rd.setL (j := p.toNat) hk2 (ixN_of (by omega) (by rw [List.length_map, K2.len]; omega)) ?_
        rw [map_set_bl]
        have e7 := Rd.same_mut (o := .lst ((kb2.set p.toNat true).map V.bl)) e6 knf
        have hf3 : (upd H2 kn (.lst ((kb2.set p.toNat true).map V.bl))) fo = some (.lst ((fs ++ more).map V.int)) := by rw [upd_ne nkf.symm]; exact hf2
        have hk3 : (upd H2 kn (.lst ((kb2.set p.toNat true).map V.bl))) kn = some (.lst ((kb2.set p.toNat true).map V.bl)) := upd_same
        generalize upd H2 kn (.lst ((kb2.set p.toNat true).map V.bl)) = H5 at e7 hf3 hk3
        walk_at "st"
        refine Rd.tyL hf3 ?_
        walk_at "st"
        refine Rd.ixT (q3.same e7).sq rw2 ?_
        walk_at "st"
        refine Rd.app hf3 (by rw [List.length_map]; exact line_of (by have := ne no; omega)) ?_
        rw [map_add_int]
        walk_at "st"
        refine ⟨fs ++ more ++ [p], _, _, rfl, Rd.same_mut e7 fof, upd_same, by rw [upd_ne nkf]; exact hk3, nd2 no, ka, ⟨more ++ [p], by rw [List.append_assoc]⟩, stay _ ⟨more ++ [p], by rw [List.append_assoc]⟩ (fun j m hj hm => List.mem_append_left _ (cl2 j m hj hm)) (List.mem_append_right _ (List.mem_singleton.mpr rfl))⟩
      · walk_at "st"
        exact ⟨fs ++ more, kb2, _, rfl, e6, hf2, hk2, F2, K2, ⟨more, rfl⟩, stay _ ⟨more, rfl⟩ cl2 yes⟩
    · rintro σ H2 ⟨fs2, kb2, v6, rfl, e6, hf2, hk2, F2, K2, ⟨more, rfl⟩, cl2⟩
      walk_at "st"
      refine ⟨t.length - (at_ + 1), by omega, at_ + 1, fs ++ more, kb2, _, _, rfl, e6, hf2, hk2, F2, K2, by rw [List.length_append]; omega, fun j y hj hy m hm => ?_, rfl⟩
      by_cases q : j < at_
      · rw [List.getElem?_append_left (by omega)] at hy
        exact List.mem_append_left _ (cl j y q hy m hm)
      · rw [show j = at_ by omega, List.getElem?_append_left hlt, hx] at hy
        cases hy
        obtain ⟨i, hi, rfl⟩ := List.getElem_of_mem hm
        exact cl2 i _ (by rw [List.length_map]; exact hi) (List.getElem?_eq_getElem hi)
  · walk_at "st"
    refine ⟨fo, fs, rfl, SqL.of hf, fun ns' l perm srt hl => ?_⟩
    refine k ig l ns' _ (F1.done (fun x hx m hm => ?_) perm srt) (Same.free e5 hl) (Rd.same_add e5 hl) upd_same
    obtain ⟨j, hj, rfl⟩ := List.getElem_of_mem hx
    exact cl j _ (by omega) (List.getElem?_eq_getElem hj) m hm
end
end K10

set_option Elab.async false
set_option linter.all false
set_option maxRecDepth 100000
set_option maxHeartbeats 4000000
namespace K10
open PySem L2 Rd GT
local macro_rules | `(tactic| walk_at "st1") => `(tactic| with_reducible first
  | refine' Rd.seq ?_ | refine' Rd.nxt ?_ | refine' Rd.asg ?_ | refine' Rd.nm ?_ | refine' Rd.con ?_ | refine' Rd.op ?_ | refine' Rd.i0 ?_ | refine' Rd.un ?_ | refine' Rd.u0 ?_
  | refine' Rd.eqI ?_ | refine' Rd.neI ?_ | refine' Rd.eqB ?_ | refine' Rd.tst ?_ | refine' Rd.tB_ ?_ | refine' Rd.exb ?_ | refine' Rd.ifS ?_ | refine' Rd.ret ?_ | refine' Rd.retN ?_ | refine' Rd.drop ?_
  | refine' Rd.nil ?_ | refine' Rd.cons ?_ | refine' Rd.cb ?_ | refine' Rd.call ?_ | refine' Rd.callN ?_ | refine' Rd.andT ?_ | refine' Rd.orT ?_ | refine' Rd.notT ?_ | refine' Rd.andV ?_ | refine' Rd.orV ?_ | refine' Rd.notV ?_ | refine' Rd.chain ?_
  | refine' Rd.lst ?_ | refine' Rd.tup ?_ | refine' Rd.for_ ?_ | refine' Rd.rng1 ?_ | refine' Rd.rng2 ?_ | refine' Rd.itl ?_ | refine' Rd.itt ?_ | refine' Rd.sub ?_
  | refine' Rd.lrg ?_ | refine' Rd.rg1 ?_ | refine' Rd.rg2 ?_ | refine' Rd.exi ?_ | refine' Rd.exi2 ?_ | refine' Rd.int1 ?_ | refine' Rd.ex1 ?_ | refine' Rd.ex2 ?_
  | refine' Rd.fld ?_ | refine' Rd.sfld ?_ | refine' Rd.meth ?_ | refine' Rd.make ?_ | refine' Rd.lc ?_ | refine' Rd.bm ?_ | refine' Rd.bm0 ?_ | refine' Rd.bt ?_ | refine' Rd.enT ?_ | refine' Rd.enL ?_)
local macro_rules | `(tactic| walk_at "st") => `(tactic| repeat (first | walk_at "st1" | ((with_reducible refine' Rd.var ?hv ?_); (case hv => rfl))))
local macro_rules | `(tactic| walk_at "sj1") => `(tactic| with_reducible first
  | refine' Rd.seqA ?_ | refine' Rd.seqD ?_ | refine' Rd.seqF ?_ | refine' Rd.seqW ?_ | refine' Rd.nxt ?_ | refine' Rd.asg ?_ | refine' Rd.nm ?_ | refine' Rd.con ?_ | refine' Rd.op ?_ | refine' Rd.i0 ?_ | refine' Rd.un ?_ | refine' Rd.u0 ?_
  | refine' Rd.eqI ?_ | refine' Rd.neI ?_ | refine' Rd.eqB ?_ | refine' Rd.tst ?_ | refine' Rd.tB_ ?_ | refine' Rd.exb ?_ | refine' Rd.ifS ?_ | refine' Rd.ret ?_ | refine' Rd.retN ?_ | refine' Rd.drop ?_
  | refine' Rd.nil ?_ | refine' Rd.cons ?_ | refine' Rd.cb ?_ | refine' Rd.call ?_ | refine' Rd.callN ?_ | refine' Rd.andT ?_ | refine' Rd.orT ?_ | refine' Rd.notT ?_ | refine' Rd.andV ?_ | refine' Rd.orV ?_ | refine' Rd.notV ?_ | refine' Rd.chain ?_
  | refine' Rd.lst ?_ | refine' Rd.tup ?_ | refine' Rd.for_ ?_ | refine' Rd.rng1 ?_ | refine' Rd.rng2 ?_ | refine' Rd.itl ?_ | refine' Rd.itt ?_ | refine' Rd.sub ?_
  | refine' Rd.lrg ?_ | refine' Rd.rg1 ?_ | refine' Rd.rg2 ?_ | refine' Rd.exi ?_ | refine' Rd.exi2 ?_ | refine' Rd.int1 ?_ | refine' Rd.ex1 ?_ | refine' Rd.ex2 ?_
  | refine' Rd.fld ?_ | refine' Rd.sfld ?_ | refine' Rd.meth ?_ | refine' Rd.make ?_ | refine' Rd.lc ?_ | refine' Rd.bm ?_ | refine' Rd.bm0 ?_ | refine' Rd.bt ?_ | refine' Rd.enT ?_ | refine' Rd.enL ?_)
local macro_rules | `(tactic| walk_at "sj") => `(tactic| repeat (first | walk_at "sj1" | ((with_reducible refine' Rd.var ?hv ?_); (case hv => rfl))))
/-! ### the law: what is drawn -/
def Bag (H : Hp) (a : Addr) : Prop := ∃ x y : Int, H a = some (.lst [.int x, .int y]) ∧ 0 ≤ x ∧ 0 ≤ y ∧ y < 2147483648
def sp_take : Sp := fun vs H Q _ => ∃ (a : Addr) (n : Int), vs = [.ref a, .int n] ∧ 1 ≤ n ∧ n ≤ 4294967296 ∧ Bag H a ∧ ∀ (v : Int) (H' : Hp), 0 ≤ v → v < n → Bag H' a → But a H H' → Q (.int v) H'
def sp_bag (K : PySem.W.Frag) : Sp := fun vs H Q _ => ∃ (a : Addr) (ns : List Int) (k : Int), vs = [.ref a, .int k] ∧ SqL K H a (ns.map V.int) ∧ 0 ≤ k ∧ k ≤ 63 ∧ ∀ (p : Addr) (H' : Hp), H p = none → Same H H' → Bag H' p → Q (.ref p) H'
def sp_isint : Sp := fun vs H Q _ => ∃ n : Int, vs = [.int n] ∧ Q (.bl true) H
theorem at0 {x : V} {xs : List V} : atI (x :: xs) 0 = some x := atI_nat (j := 0) rfl
theorem at1 {x y : V} {xs : List V} : atI (x :: y :: xs) 1 = some y := atI_nat (j := 1) rfl
theorem line2 {a b : V} : [a, b].length ≤ sizeLine := by show 2 ≤ sizeLine; decide
def sp_power : Sp := fun vs H Q _ => ∃ (b n : Int) (k : Nat), vs = [.int b, .int (k : Nat), .int n] ∧ 1 ≤ n ∧ n ≤ 64 ∧ 0 ≤ b ∧ b ≤ 64 ∧ k ≤ 64 ∧ Q (.int (pwm b n k)) H
section
variable {P : Program} {w : World} {K : PySem.W.Frag} {mg : Str → Option Value} {base : Heap} {f : Addr} {fd : FuncData}
abbrev s__law_bag : Stmt := (top 22)
theorem sc__law_bag : FnScope ["script", "k", "cell"] ["script", "k"] (defScope s__law_bag) := ⟨rfl, rfl, rfl, by decide +kernel, rfl, by decide +kernel, by decide +kernel⟩
theorem ok_bag (F : FnP K "_law_bag" "_law_bag" s__law_bag f fd) (T : Txt K mg) : FnOk P w K mg base CX0 1 f fd ["script", "k"] (sp_bag K) := by
  refine F.ok sc__law_bag (fun vs H Q E h => ?_) (fun cdv A outer s H vs Q E hr h => ?_)
  · obtain ⟨_, _, _, rfl, _⟩ := h; rfl
  obtain ⟨a, ns, i, rfl, hS, i0, i1, k⟩ := h
  refine ⟨_, PSs.nox (pss_cons (ps_set (i := 2) sc__law_bag.nd rfl (Or.inl rfl) pe_int)
  (pss_cons (ps_if (pt_cmpR op_lt (pv 1) (pe_callB (Rk.len K) rfl T.len PySem.boot_len (pa_cons (pv 0) pa_nil)) (nomark _))
  (pss_one (ps_set (i := 2) sc__law_bag.nd rfl (Or.inl rfl) (pe_ix (Rk.ixL K) (pv 0) (pv 1) (fun _ _ => rfl))))
  pss_nil)
  (pss_cons (ps_if (pt_cmpR op_ge (pe_callB call_abs rfl T.abs (by decide +kernel) (pa_cons (pv 2) pa_nil)) (pe_op op_pow pe_int pe_int) (nomark _))
  (pss_one (ps_ret (pe_lst (pa_cons (pe_callB call_abs rfl T.abs (by decide +kernel) (pa_cons (pv 2) pa_nil)) (pa_cons (pe_op op_mod (pe_callTy call_int1 rfl T.int (by decide +kernel) (pa_cons (pe_callB call_abs rfl T.abs (by decide +kernel) (pa_cons (pv 2) pa_nil)) pa_nil)) pe_int) pa_nil)))))
  pss_nil)
  (pss_one (ps_ret (pe_lst (pa_cons pe_int (pa_cons (pe_op op_mod (pe_callTy call_int1 rfl T.int (by decide +kernel) (pa_cons (pe_op op_add (pe_op op_mul (pv 2) pe_int) (pe_op op_mul pe_int (pe_op op_add (pv 1) pe_int))) pa_nil)) pe_int) pa_nil)))))))), ?_⟩
  walk_at "sj"
  with_reducible refine Rd.seqJ (fun σ' H' => ∃ c : Int, σ' = [some (.ref a), some (.int i), some (.int c)] ∧ H' = H) ?_ fun N hN => ?_
  · rintro σ' H' ⟨c, rfl, rfl⟩
    walk_at "st"
    refine Rd.iC ⟨by decide, by decide, by decide⟩ ?_
    walk_at "st"
    refine Rd.ite_d (fun h1 => ?_) (fun h1 => ?_)
    · walk_at "st"
      refine Rd.iC (by show (0 : Int) < 2147483629; decide) ?_
      walk_at "st"
      refine ⟨line2, fun p hp => k p _ hp (Rd.same_mk hp) ⟨_, _, upd_same, ?_, ?_, ?_⟩⟩
      · split <;> omega
      · exact Int.emod_nonneg _ (by decide)
      · exact Int.lt_trans (Int.emod_lt_of_pos _ (by decide)) (by decide)
    · walk_at "st"
      refine Rd.iC (.inr ⟨by decide, by decide⟩) ?_
      walk_at "st"
      refine Rd.iC (.inl ⟨by decide, by decide⟩) ?_
      walk_at "st"
      refine Rd.iC (by show (0 : Int) < 2147483647; decide) ?_
      walk_at "st"
      refine ⟨line2, fun p hp => k p _ hp (Rd.same_mk hp) ⟨_, _, upd_same, by decide, ?_, ?_⟩⟩
      · exact Int.emod_nonneg _ (by decide)
      · exact Int.lt_trans (Int.emod_lt_of_pos _ (by decide)) (by decide)
  walk_at "sj"
  refine Rd.len1 (.inl hS) ?_
  walk_at "sj"
  refine Rd.ite_d (fun h1 => ?_) (fun h1 => ?_)
  · rw [List.length_map] at h1
    obtain ⟨c, hc⟩ : ∃ c, ns[i.toNat]? = some c := ⟨ns[i.toNat]'(by omega), List.getElem?_eq_getElem (by omega)⟩
    walk_at "st"
    refine Rd.ixL hS (at_of (j := i.toNat) (v := .int c) (by omega) (by rw [List.getElem?_map, hc]; rfl)) ?_
    walk_at "st"
    exact hN _ _ ⟨c, rfl, rfl⟩
  · walk_at "st"
    exact hN _ _ ⟨0, rfl, rfl⟩
abbrev s__law_take : Stmt := (top 23)
theorem sc__law_take : FnScope ["bag", "size", "digit"] ["bag", "size"] (defScope s__law_take) := ⟨rfl, rfl, rfl, by decide +kernel, rfl, by decide +kernel, by decide +kernel⟩
theorem ok_take (F : FnP K "_law_take" "_law_take" s__law_take f fd) (T : Txt K mg) : FnOk P w K mg base CX0 1 f fd ["bag", "size"] sp_take := by
  refine F.ok sc__law_take (fun vs H Q E h => ?_) (fun cdv A outer s H vs Q E hr h => ?_)
  · obtain ⟨_, _, rfl, _⟩ := h; rfl
  obtain ⟨a, n, rfl, n1, n2, ⟨x, y, hL, x0, y0, y1⟩, k⟩ := h
  refine ⟨_, PSs.nox (pss_cons (ps_if (pt_cmpR op_ge (pe_ix (Rk.ixL K) (pv 0) pe_int (fun _ _ => rfl)) (pv 1) (nomark _))
  (pss_cons (ps_set (i := 2) sc__law_take.nd rfl (Or.inl rfl) (pe_op op_mod (pe_callTy call_int1 rfl T.int (by decide +kernel) (pa_cons (pe_ix (Rk.ixL K) (pv 0) pe_int (fun _ _ => rfl)) pa_nil)) (pv 1)))
  (pss_cons (ps_asg (pe_op op_fdivW (pe_ix (Rk.ixL K) (pv 0) pe_int (fun _ _ => rfl)) (pv 1)) (pg_sub (pv 0) pe_int set_list))
  (pss_one (ps_ret (pv 2)))))
  pss_nil)
  (pss_cons (ps_asg (pe_op op_mod (pe_callTy call_int1 rfl T.int (by decide +kernel) (pa_cons (pe_op op_add (pe_op op_mul (pe_ix (Rk.ixL K) (pv 0) pe_int (fun _ _ => rfl)) pe_int) pe_int) pa_nil)) pe_int) (pg_sub (pv 0) pe_int set_list))
  (pss_cons (ps_asg (pe_op op_mod (pe_callTy call_int1 rfl T.int (by decide +kernel) (pa_cons (pe_op op_add (pe_op op_mul (pe_ix (Rk.ixL K) (pv 0) pe_int (fun _ _ => rfl)) pe_int) pe_int) pa_nil)) pe_int) (pg_sub (pv 0) pe_int set_list))
  (pss_one (ps_ret (pe_op op_mod (pe_callTy call_int1 rfl T.int (by decide +kernel) (pa_cons (pe_op op_fdivW (pe_ix (Rk.ixL K) (pv 0) pe_int (fun _ _ => rfl)) pe_int) pa_nil)) (pv 1))))))), ?_⟩
  walk_at "st"
  refine Rd.ixL (SqL.of hL) at0 ?_
  walk_at "st"
  refine Rd.ite_d (fun h1 => ?_) (fun h1 => ?_)
  · walk_at "st"
    refine Rd.ixL (SqL.of hL) at0 ?_
    walk_at "st"
    refine Rd.iC (by show 0 < n; omega) ?_
    walk_at "st"
    refine Rd.ixL (SqL.of hL) at0 ?_
    walk_at "st"
    refine Rd.iC (wide_div (b := 64) (by omega) (by omega) (by decide) (by decide)) ?_
    walk_at "st"
    refine Rd.setL hL (j := 0) rfl ?_
    walk_at "st"
    refine k _ _ (Int.emod_nonneg _ (by omega)) (Int.emod_lt_of_pos _ (by omega)) ⟨_, _, upd_same, ?_, y0, y1⟩ Rd.But.put
    exact Int.ediv_nonneg x0 (by omega)
  · walk_at "st"
    refine Rd.ixL (SqL.of hL) at1 ?_
    walk_at "st"
    refine Rd.iC (.inr ⟨by decide, by decide⟩) ?_
    walk_at "st"
    refine Rd.iC (by show (0 : Int) < 2147483647; decide) ?_
    walk_at "st"
    refine Rd.setL hL (j := 1) rfl ?_
    walk_at "st"
    have z0 := Int.emod_nonneg (y * 48271 + 11) (b := 2147483647) (by decide)
    have z1 := Int.emod_lt_of_pos (y * 48271 + 11) (b := 2147483647) (by decide)
    generalize (y * 48271 + 11) % 2147483647 = y2 at z0 z1
    refine Rd.ixL (xs := [.int x, .int y2]) (SqL.of upd_same) at1 ?_
    walk_at "st"
    refine Rd.iC (.inr ⟨by decide, by decide⟩) ?_
    walk_at "st"
    refine Rd.iC (by show (0 : Int) < 2147483629; decide) ?_
    walk_at "st"
    refine Rd.setL (xs := [.int x, .int y2]) upd_same (j := 1) rfl ?_
    walk_at "st"
    have w0 := Int.emod_nonneg (y2 * 69621 + 1013) (b := 2147483629) (by decide)
    have w1 := Int.emod_lt_of_pos (y2 * 69621 + 1013) (b := 2147483629) (by decide)
    generalize (y2 * 69621 + 1013) % 2147483629 = y3 at w0 w1
    refine Rd.ixL (xs := [.int x, .int y3]) (SqL.of upd_same) at1 ?_
    walk_at "st"
    refine Rd.iC (wide_div (b := 64) (by decide) (by decide) (by decide) (by decide)) ?_
    walk_at "st"
    refine Rd.iC (by show 0 < n; omega) ?_
    exact k _ _ (Int.emod_nonneg _ (by omega)) (Int.emod_lt_of_pos _ (by omega)) ⟨x, y3, upd_same, x0, w0, by omega⟩ (Rd.But.put.trans Rd.But.put)
abbrev s__law_is_integer : Stmt := (top 30)
theorem sc__law_is_integer : FnScope ["told"] ["told"] (defScope s__law_is_integer) := ⟨rfl, rfl, rfl, by decide +kernel, rfl, by decide +kernel, by decide +kernel⟩
theorem ok_isint (F : FnP K "_law_is_integer" "_law_is_integer" s__law_is_integer f fd) (T : Txt K mg) : FnOk P w K mg base CX0 1 f fd ["told"] sp_isint := by
  refine F.ok sc__law_is_integer (fun vs H Q E h => ?_) (fun cdv A outer s H vs Q E hr h => ?_)
  · obtain ⟨_, rfl, _⟩ := h; rfl
  obtain ⟨n, rfl, k⟩ := h
  refine ⟨_, PSs.nox (pss_one (ps_ret (pe_and (pe_callB (Rk.isi K) rfl T.isinstance (by decide +kernel) (pa_cons (pv 0) (pa_cons (pe_bltn rfl T.int (by decide +kernel) (RelV_ty "int")) pa_nil))) (pe_one (pe_not (pe_callB (Rk.isi K) rfl T.isinstance (by decide +kernel) (pa_cons (pv 0) (pa_cons (pe_bltn rfl T.bool (by decide +kernel) (RelV_ty "bool")) pa_nil)))))))), ?_⟩
  walk_at "st"
  refine Rd.isi (.base (.int n)) (Rd.kit_ty (v := true) (by decide +kernel)) ?_
  walk_at "st"
  refine (if_pos rfl).mpr ?_
  walk_at "st"
  refine Rd.isi (.base (.int n)) (Rd.kit_ty (b := "bool") (v := false) (by decide +kernel)) ?_
  walk_at "st"
  exact k
abbrev s__law_power : Stmt := (top 24)
theorem sc__law_power : FnScope ["base", "times", "modulus", "result", "step"] ["base", "times", "modulus"] (defScope s__law_power) := ⟨rfl, rfl, rfl, by decide +kernel, rfl, by decide +kernel, by decide +kernel⟩
theorem ok_power (F : FnP K "_law_power" "_law_power" s__law_power f fd) (T : Txt K mg) : FnOk P w K mg base CX0 1 f fd ["base", "times", "modulus"] sp_power := by
  refine F.ok sc__law_power (fun vs H Q E h => ?_) (fun cdv A outer s H vs Q E hr h => ?_)
  · obtain ⟨_, _, _, rfl, _⟩ := h; rfl
  obtain ⟨b, n, k, rfl, n1, n2, b0, b1, k1, q⟩ := h
  refine ⟨_, PSs.nox (pss_cons (ps_set (i := 3) sc__law_power.nd rfl (Or.inl rfl) (pe_op op_mod (pe_callTy call_int1 rfl T.int (by decide +kernel) (pa_cons pe_int pa_nil)) (pv 2)))
  (pss_cons (ps_for PassesOwn.never rfl (pi_range1 rfl T.range (pa_cons (pv 1) pa_nil)) (pg_name (i := 4) sc__law_power.nd rfl (Or.inl rfl))
  (pss_one (ps_set (i := 3) sc__law_power.nd rfl (Or.inl rfl) (pe_op op_mod (pe_callTy call_int1 rfl T.int (by decide +kernel) (pa_cons (pe_op op_mul (pv 3) (pv 0)) pa_nil)) (pv 2)))))
  (pss_one (ps_ret (pv 3))))), ?_⟩
  walk_at "st"
  refine Rd.iC (by show 0 < n; omega) ?_
  walk_at "st"
  refine ⟨by omega, by omega, ?_⟩
  refine for_range (fun i σ H' => ∃ v : Option V, σ = [some (.int b), some (.int (k : Nat)), some (.int n), some (.int (pwm b n i)), v] ∧ H' = H) ⟨none, rfl, rfl⟩ ?_ ?_
  · rintro i σ H' hi ⟨v, rfl, rfl⟩
    obtain ⟨p0, p1⟩ := pwm_range (b := b) n1 i
    have p2 : pwm b n i * b ≤ 64 * 64 := Int.mul_le_mul (by omega) b1 b0 (by decide)
    have p3 : 0 ≤ pwm b n i * b := Int.mul_nonneg p0 b0
    walk_at "st"
    refine Rd.iC (.inr ⟨by omega, by omega⟩) ?_
    walk_at "st"
    refine Rd.iC (by show 0 < n; omega) ?_
    walk_at "st"
    exact ⟨_, rfl, rfl⟩
  · rintro σ H' ⟨v, rfl, rfl⟩
    walk_at "st"
    exact q
end
end K10

set_option Elab.async false
set_option linter.all false
set_option maxRecDepth 100000
set_option maxHeartbeats 4000000
namespace K10
open PySem L2 Rd GT
local macro_rules | `(tactic| walk_at "st1") => `(tactic| with_reducible first
  | refine' Rd.seq ?_ | refine' Rd.nxt ?_ | refine' Rd.asg ?_ | refine' Rd.nm ?_ | refine' Rd.con ?_ | refine' Rd.op ?_ | refine' Rd.i0 ?_ | refine' Rd.un ?_ | refine' Rd.u0 ?_
  | refine' Rd.eqI ?_ | refine' Rd.neI ?_ | refine' Rd.eqB ?_ | refine' Rd.tst ?_ | refine' Rd.tB_ ?_ | refine' Rd.exb ?_ | refine' Rd.ifS ?_ | refine' Rd.ret ?_ | refine' Rd.retN ?_ | refine' Rd.drop ?_
  | refine' Rd.nil ?_ | refine' Rd.cons ?_ | refine' Rd.cb ?_ | refine' Rd.call ?_ | refine' Rd.callN ?_ | refine' Rd.andT ?_ | refine' Rd.orT ?_ | refine' Rd.notT ?_ | refine' Rd.andV ?_ | refine' Rd.orV ?_ | refine' Rd.notV ?_ | refine' Rd.chain ?_
  | refine' Rd.lst ?_ | refine' Rd.tup ?_ | refine' Rd.for_ ?_ | refine' Rd.rng1 ?_ | refine' Rd.rng2 ?_ | refine' Rd.itl ?_ | refine' Rd.itt ?_ | refine' Rd.sub ?_
  | refine' Rd.lrg ?_ | refine' Rd.rg1 ?_ | refine' Rd.rg2 ?_ | refine' Rd.exi ?_ | refine' Rd.exi2 ?_ | refine' Rd.int1 ?_ | refine' Rd.ex1 ?_ | refine' Rd.ex2 ?_
  | refine' Rd.fld ?_ | refine' Rd.sfld ?_ | refine' Rd.meth ?_ | refine' Rd.make ?_ | refine' Rd.lc ?_ | refine' Rd.bm ?_ | refine' Rd.bm0 ?_ | refine' Rd.bt ?_ | refine' Rd.enT ?_ | refine' Rd.enL ?_)
local macro_rules | `(tactic| walk_at "st") => `(tactic| repeat (first | walk_at "st1" | ((with_reducible refine' Rd.var ?hv ?_); (case hv => rfl))))
local macro_rules | `(tactic| walk_at "sj1") => `(tactic| with_reducible first
  | refine' Rd.seqA ?_ | refine' Rd.seqD ?_ | refine' Rd.seqF ?_ | refine' Rd.seqW ?_ | refine' Rd.nxt ?_ | refine' Rd.asg ?_ | refine' Rd.nm ?_ | refine' Rd.con ?_ | refine' Rd.op ?_ | refine' Rd.i0 ?_ | refine' Rd.un ?_ | refine' Rd.u0 ?_
  | refine' Rd.eqI ?_ | refine' Rd.neI ?_ | refine' Rd.eqB ?_ | refine' Rd.tst ?_ | refine' Rd.tB_ ?_ | refine' Rd.exb ?_ | refine' Rd.ifS ?_ | refine' Rd.ret ?_ | refine' Rd.retN ?_ | refine' Rd.drop ?_
  | refine' Rd.nil ?_ | refine' Rd.cons ?_ | refine' Rd.cb ?_ | refine' Rd.call ?_ | refine' Rd.callN ?_ | refine' Rd.andT ?_ | refine' Rd.orT ?_ | refine' Rd.notT ?_ | refine' Rd.andV ?_ | refine' Rd.orV ?_ | refine' Rd.notV ?_ | refine' Rd.chain ?_
  | refine' Rd.lst ?_ | refine' Rd.tup ?_ | refine' Rd.for_ ?_ | refine' Rd.rng1 ?_ | refine' Rd.rng2 ?_ | refine' Rd.itl ?_ | refine' Rd.itt ?_ | refine' Rd.sub ?_
  | refine' Rd.lrg ?_ | refine' Rd.rg1 ?_ | refine' Rd.rg2 ?_ | refine' Rd.exi ?_ | refine' Rd.exi2 ?_ | refine' Rd.int1 ?_ | refine' Rd.ex1 ?_ | refine' Rd.ex2 ?_
  | refine' Rd.fld ?_ | refine' Rd.sfld ?_ | refine' Rd.meth ?_ | refine' Rd.make ?_ | refine' Rd.lc ?_ | refine' Rd.bm ?_ | refine' Rd.bm0 ?_ | refine' Rd.bt ?_ | refine' Rd.enT ?_ | refine' Rd.enL ?_)
local macro_rules | `(tactic| walk_at "sj") => `(tactic| repeat (first | walk_at "sj1" | ((with_reducible refine' Rd.var ?hv ?_); (case hv => rfl))))
/-! ### the law: the tables that it draws -/
theorem Bag.same {H H' : Hp} {b : Addr} (h : Bag H b) (e : Same H H') : Bag H' b := by
  obtain ⟨x, y, h1, h2⟩ := h
  exact ⟨x, y, e _ _ h1, h2⟩
theorem Bag.some {H : Hp} {b : Addr} (h : Bag H b) : H b ≠ none := by
  obtain ⟨x, y, h1, h2⟩ := h
  rw [h1]
  intro z
  cases z
theorem Bag.put {H : Hp} {b p : Addr} {o : HO} (h : Bag H b) (n : b ≠ p) : Bag (upd H p o) b := by
  obtain ⟨x, y, h1, h2⟩ := h
  exact ⟨x, y, by rw [upd_ne n]; exact h1, h2⟩
theorem Bag.ne {H : Hp} {b p : Addr} (h : Bag H b) (n : H p = none) : b ≠ p := fun z => h.some (z ▸ n)
theorem butFree {H H1 : Hp} {b p : Addr} (e : But b H H1) (n : p ≠ b) (h : H1 p = none) : H p = none := by
  cases q : H p with
  | none => rfl
  | some o => rw [e p o n q] at h; cases h
theorem butAdd {H H1 : Hp} {b p : Addr} {o : HO} (e : But b H H1) (h : H1 p = none) : But b H (upd H1 p o) := fun c u n q => by
  have z := e c u n q
  rw [upd_ne (ne_of_none z h)]
  exact z
theorem butMut {H H1 : Hp} {b p : Addr} {o : HO} (e : But b H H1) (h : H p = none) : But b H (upd H1 p o) := fun c u n q => by
  rw [upd_ne (ne_of_none q h)]
  exact e c u n q
theorem butSame {H H1 H2 : Hp} {b : Addr} (e : But b H H1) (s : Same H1 H2) : But b H H2 := fun c u n q => s _ _ (e c u n q)
/-- a new list of new lists of ints -/
structure TabN (H H' : Hp) (p : Addr) (t : List (List Int)) : Prop where
  fresh : H p = none
  ob : ∃ as, H' p = some (.lst (as.map V.ref)) ∧ Rows LstN H' as t ∧ (∀ a ∈ as, H a = none ∧ a ≠ p) ∧ as.Nodup
structure PairOk (n m : Int) (q : Int × Int) : Prop where
  r1 : 1 ≤ q.1
  rn : q.1 ≤ n
  s0 : 0 ≤ q.2
  sn : q.2 < n
  one : pwm q.1 n m.toNat = 1 % n
  fix : (q.1 - 1) * q.2 % n = 0
def sp_meta : Sp := fun vs H Q _ => ∃ (b : Addr) (lim : Int), vs = [.ref b, .int lim] ∧ 1 ≤ lim ∧ lim ≤ 33 ∧ Bag H b ∧ ∀ (n m k r s : Int) (p : Addr) (H' : Hp), MetaOk n m k r s → n * m * k ≤ lim → Bag H' b → But b H H' → TabN H H' p (metaT n m k r s) → Q (.ref p) H'
theorem div_fit {a b l : Int} (ha : 1 ≤ a) (h : b ≤ l / a) : a * b ≤ l := by
  have h1 : b * a ≤ l / a * a := Int.mul_le_mul_of_nonneg_right h (by omega)
  have h2 := Int.ediv_mul_le l (by omega : a ≠ 0)
  rw [Int.mul_comm] at h1
  omega
theorem div_one {a l : Int} (ha : 1 ≤ a) (h : a ≤ l) : 1 ≤ l / a := (Int.le_ediv_iff_mul_le (by omega)).mpr (by omega)
theorem le_mul1 {a b : Int} (ha : 1 ≤ a) (hb : 1 ≤ b) : a ≤ a * b ∧ b ≤ a * b := by
  have h1 := Int.mul_le_mul_of_nonneg_left hb (by omega : 0 ≤ a)
  have h2 := Int.mul_le_mul_of_nonneg_right ha (by omega : 0 ≤ b)
  rw [Int.mul_one] at h1
  rw [Int.one_mul] at h2
  exact ⟨h1, h2⟩
section
variable {P : Program} {w : World} {K : PySem.W.Frag} {mg : Str → Option Value} {base : Heap} {f : Addr} {fd : FuncData}
abbrev s__law_metacyclic : Stmt := (top 25)
theorem sc__law_metacyclic : FnScope ["bag", "limit", "n", "m", "k", "pairs", "r", "s", "twisted", "pair", "table", "x", "turn", "row", "y", "a", "b"] ["bag", "limit"] (defScope s__law_metacyclic) := ⟨rfl, rfl, rfl, by decide +kernel, rfl, by decide +kernel, by decide +kernel⟩
theorem ok_meta (F : FnP K "_law_metacyclic" "_law_metacyclic" s__law_metacyclic f fd) (T : Txt K mg) (D__law_take : DOk P w K mg base CX0 "_law_take" 1 ["bag", "size"] sp_take) (D__law_power : DOk P w K mg base CX0 "_law_power" 1 ["base", "times", "modulus"] sp_power) : FnOk P w K mg base CX0 2 f fd ["bag", "limit"] sp_meta := by
  refine F.ok sc__law_metacyclic (fun vs H Q E h => ?_) (fun cdv A outer s H vs Q E hr h => ?_)
  · obtain ⟨_, _, rfl, _⟩ := h; rfl
  obtain ⟨b, lim, rfl, l1, l2, hb, kQ⟩ := h
  refine ⟨_, PSs.nox (pss_cons (ps_set (i := 2) sc__law_metacyclic.nd rfl (Or.inl rfl) (pe_op op_add pe_int (callX D__law_take (hr.mono (by decide)) (passN) (pa_cons (pv 0) (pa_cons (pv 1) pa_nil)))))
  (pss_cons (ps_set (i := 3) sc__law_metacyclic.nd rfl (Or.inl rfl) (pe_op op_add pe_int (callX D__law_take (hr.mono (by decide)) (passN) (pa_cons (pv 0) (pa_cons (pe_op op_fdivW (pv 1) (pv 2)) pa_nil)))))
  (pss_cons (ps_if (PW.pt (pw_and (pt_cmpR op_gt (pv 1) pe_int (nomark _)) (pw_and1 (pt_cmpR op_eq (callX D__law_take (hr.mono (by decide)) (passN) (pa_cons (pv 0) (pa_cons pe_int pa_nil))) pe_int (nomark _)))))
  (pss_cons (ps_set (i := 2) sc__law_metacyclic.nd rfl (Or.inl rfl) (pe_op op_add pe_int (callX D__law_take (hr.mono (by decide)) (passN) (pa_cons (pv 0) (pa_cons (pe_op op_sub (pe_op op_fdivW (pv 1) pe_int) pe_int) pa_nil)))))
  (pss_one (ps_set (i := 3) sc__law_metacyclic.nd rfl (Or.inl rfl) pe_int)))
  pss_nil)
  (pss_cons (ps_set (i := 4) sc__law_metacyclic.nd rfl (Or.inl rfl) (pe_op op_add pe_int (callX D__law_take (hr.mono (by decide)) (passN) (pa_cons (pv 0) (pa_cons (pe_op op_fdivW (pv 1) (pe_op op_mul (pv 2) (pv 3))) pa_nil)))))
  (pss_cons (ps_set (i := 5) sc__law_metacyclic.nd rfl (Or.inl rfl) (pe_lst pa_nil))
  (pss_cons (ps_for PassesOwn.never rfl (pi_range2 rfl T.range (pa_cons pe_int (pa_cons (pe_op op_add (pv 2) pe_int) pa_nil))) (pg_name (i := 6) sc__law_metacyclic.nd rfl (Or.inl rfl))
  (pss_one (ps_for PassesOwn.never rfl (pi_range1 rfl T.range (pa_cons (pv 2) pa_nil)) (pg_name (i := 7) sc__law_metacyclic.nd rfl (Or.inl rfl))
  (pss_one (ps_if (PW.pt (pw_and (pt_cmpR op_eq (callX D__law_power (hr.mono (by decide)) (passN) (pa_cons (pv 6) (pa_cons (pv 3) (pa_cons (pv 2) pa_nil)))) (pe_op op_mod (pe_callTy call_int1 rfl T.int (by decide +kernel) (pa_cons pe_int pa_nil)) (pv 2)) (nomark _)) (pw_and1 (pt_cmpR op_eq (pe_op op_mod (pe_callTy call_int1 rfl T.int (by decide +kernel) (pa_cons (pe_op op_mul (pe_op op_sub (pv 6) pe_int) (pv 7)) pa_nil)) (pv 2)) pe_int (nomark _)))))
  (pss_one (ps_expr (Rk.bm K rfl PySem.F.plainAttrs_list PySem.F.slot_list_append PySem.F.type_list_append mt_append (pv 5) (pa_cons (pe_tup (pa_cons (pv 6) (pa_cons (pv 7) pa_nil))) pa_nil))))
  pss_nil)))))
  (pss_cons (ps_setLc (i := 8) (own := [("pair", 9)]) rfl sc__law_metacyclic.nd rfl rfl (sw_true rfl rfl rfl (by decide +kernel)) (Rk.pl K rfl (pv 5)) (blkOk_by (own := [("pair", 9)]) (N := ["bag", "limit", "n", "m", "k", "pairs", "r", "s", "twisted", "pair", "table", "x", "turn", "row", "y", "a", "b"]) (sc := defScope s__law_metacyclic) (by decide +kernel)) (fun _ _ _ _ _ => (pg_name (i := 9) sc__law_metacyclic.nd rfl (Or.inl rfl))) (fun _ _ _ _ _ => (pts_one (pt_cmpR op_gt (pe_ix (Rk.ixT K) (pv 9) pe_int (fun _ _ => rfl)) pe_int (nomark _)))) (fun _ _ _ _ _ => (pv 9)))
  (pss_cons (ps_if (PW.pt (pw_and (pt_cmpR op_gt (pe_callB (Rk.len K) rfl T.len PySem.boot_len (pa_cons (pv 8) pa_nil)) pe_int (nomark _)) (pw_and1 (pt_cmpR op_gt (callX D__law_take (hr.mono (by decide)) (passN) (pa_cons (pv 0) (pa_cons pe_int pa_nil))) pe_int (nomark _)))))
  (pss_one (ps_set (i := 5) sc__law_metacyclic.nd rfl (Or.inl rfl) (pv 8)))
  pss_nil)
  (pss_cons (ps_set (i := 9) sc__law_metacyclic.nd rfl (Or.inl rfl) (pe_ix (Rk.ixL K) (pv 5) (callX D__law_take (hr.mono (by decide)) (passN) (pa_cons (pv 0) (pa_cons (pe_callB (Rk.len K) rfl T.len PySem.boot_len (pa_cons (pv 5) pa_nil)) pa_nil))) (fun _ _ => rfl)))
  (pss_cons (ps_set (i := 10) sc__law_metacyclic.nd rfl (Or.inl rfl) (pe_lst pa_nil))
  (pss_cons (ps_for PassesOwn.never rfl (pi_range1 rfl T.range (pa_cons (pe_op op_mul (pe_op op_mul (pv 2) (pv 3)) (pv 4)) pa_nil)) (pg_name (i := 11) sc__law_metacyclic.nd rfl (Or.inl rfl))
  (pss_cons (ps_set (i := 12) sc__law_metacyclic.nd rfl (Or.inl rfl) (callX D__law_power (hr.mono (by decide)) (passN) (pa_cons (pe_ix (Rk.ixT K) (pv 9) pe_int (fun _ _ => rfl)) (pa_cons (pe_op op_mod (pe_callTy call_int1 rfl T.int (by decide +kernel) (pa_cons (pe_op op_fdivW (pv 11) (pv 4)) pa_nil)) (pv 3)) (pa_cons (pv 2) pa_nil)))))
  (pss_cons (ps_set (i := 13) sc__law_metacyclic.nd rfl (Or.inl rfl) (pe_lst pa_nil))
  (pss_cons (ps_for PassesOwn.never rfl (pi_range1 rfl T.range (pa_cons (pe_op op_mul (pe_op op_mul (pv 2) (pv 3)) (pv 4)) pa_nil)) (pg_name (i := 14) sc__law_metacyclic.nd rfl (Or.inl rfl))
  (pss_cons (ps_set (i := 15) sc__law_metacyclic.nd rfl (Or.inl rfl) (pe_op op_add (pe_op op_fdivW (pv 11) (pe_op op_mul (pv 3) (pv 4))) (pe_op op_mul (pv 12) (pe_op op_fdivW (pv 14) (pe_op op_mul (pv 3) (pv 4))))))
  (pss_cons (ps_set (i := 16) sc__law_metacyclic.nd rfl (Or.inl rfl) (pe_op op_add (pe_op op_mod (pe_callTy call_int1 rfl T.int (by decide +kernel) (pa_cons (pe_op op_fdivW (pv 11) (pv 4)) pa_nil)) (pv 3)) (pe_op op_mod (pe_callTy call_int1 rfl T.int (by decide +kernel) (pa_cons (pe_op op_fdivW (pv 14) (pv 4)) pa_nil)) (pv 3))))
  (pss_cons (ps_if (pt_cmpR op_ge (pv 16) (pv 3) (nomark _))
  (pss_one (ps_set (i := 15) sc__law_metacyclic.nd rfl (Or.inl rfl) (pe_op op_add (pv 15) (pe_ix (Rk.ixT K) (pv 9) pe_int (fun _ _ => rfl)))))
  pss_nil)
  (pss_one (ps_expr (Rk.bm K rfl PySem.F.plainAttrs_list PySem.F.slot_list_append PySem.F.type_list_append mt_append (pv 13) (pa_cons (pe_op op_add (pe_op op_mul (pe_op op_add (pe_op op_mul (pe_op op_mod (pe_callTy call_int1 rfl T.int (by decide +kernel) (pa_cons (pv 15) pa_nil)) (pv 2)) (pv 3)) (pe_op op_mod (pe_callTy call_int1 rfl T.int (by decide +kernel) (pa_cons (pv 16) pa_nil)) (pv 3))) (pv 4)) (pe_op op_mod (pe_callTy call_int1 rfl T.int (by decide +kernel) (pa_cons (pe_op op_add (pv 11) (pv 14)) pa_nil)) (pv 4))) pa_nil))))))))
  (pss_one (ps_expr (Rk.bm K rfl PySem.F.plainAttrs_list PySem.F.slot_list_append PySem.F.type_list_append mt_append (pv 10) (pa_cons (pv 13) pa_nil))))))))
  (pss_one (ps_ret (pv 10)))))))))))))), ?_⟩
  walk_at "sj"
  refine ⟨b, lim, rfl, l1, by omega, hb, fun n0 H1 n1 n2 hb1 e1 => ?_⟩
  walk_at "sj"
  refine Rd.iC (wide_div (b := 64) (by omega) (by omega) (by decide) (by decide)) ?_
  walk_at "sj"
  have d1 := div_one (a := 1 + n0) (l := lim) (by omega) (by omega)
  have d2 : lim / (1 + n0) ≤ lim := Int.ediv_le_self _ (by omega)
  refine ⟨b, _, rfl, d1, by omega, hb1, fun m0 H2 m1 m2 hb2 e2 => ?_⟩
  have fit1 := div_fit (a := 1 + n0) (b := 1 + m0) (l := lim) (by omega) (by omega)
  walk_at "sj"
  with_reducible refine Rd.seqJ (fun σ' H' => ∃ n m : Int, σ' = [some (.ref b), some (.int lim), some (.int n), some (.int m), none, none, none, none, none, none, none, none, none, none, none, none, none] ∧ 1 ≤ n ∧ 1 ≤ m ∧ n * m ≤ lim ∧ Bag H' b ∧ But b H H') ?_ fun N hN => ?_
  · rintro σ H3 ⟨n, m, rfl, n1, m1, nm, hb3, e3⟩
    obtain ⟨nn, mm⟩ := le_mul1 n1 m1
    walk_at "sj"
    refine Rd.iC (.inl ⟨by omega, by omega⟩) ?_
    walk_at "sj"
    refine Rd.iC (wide_div (b := 64) (by omega) (by omega) (by decide) (by decide)) ?_
    walk_at "sj"
    have d3 := div_one (a := n * m) (l := lim) (by omega) nm
    have d4 : lim / (n * m) ≤ lim := Int.ediv_le_self _ (by omega)
    refine ⟨b, _, rfl, d3, by omega, hb3, fun k0 H4 k1 k2 hb4 e4 => ?_⟩
    have fit2 := div_fit (a := n * m) (b := 1 + k0) (l := lim) (by omega) (by omega)
    generalize hk : 1 + k0 = k at fit2
    have k1 : 1 ≤ k := by omega
    have e5 := e3.trans e4
    walk_at "sj"
    rw [hk]
    refine ⟨Nat.zero_le _, fun p hp => ?_⟩
    have p0 := butFree e5 (hb4.ne hp).symm hp
    obtain ⟨mn, rfl⟩ : ∃ mn : Nat, m = (mn : Int) := ⟨m.toNat, by omega⟩
    have big : ∀ x : Nat, x ≤ 33 * 33 → x < sizeLine := fun x h => Nat.lt_of_le_of_lt h (by decide)
    have nb : n.toNat ≤ 33 := by omega
    walk_at "sj"
    refine ⟨by omega, ?_⟩
    refine for_range (lo := 1) (fun i σ H' => ∃ (v6 v7 : Option V) (ts : List Addr) (l : List (Int × Int)), σ = [some (.ref b), some (.int lim), some (.int n), some (.int (mn : Nat)), some (.int k), some (.ref p), v6, v7, none, none, none, none, none, none, none, none, none] ∧ Same H4 H' ∧ H' p = some (.lst (ts.map V.ref)) ∧ Prs H' ts l ∧ (∀ q ∈ l, PairOk n mn q) ∧ (0 < i → l ≠ []) ∧ l.length ≤ i * n.toNat)
      ⟨none, none, [], [], rfl, Rd.same_mk hp, upd_same, Prs.nil, (fun q h => by cases h), (fun h => by omega), Nat.zero_le _⟩ ?_ ?_
    · rintro i σ H' hi ⟨v6, v7, ts, l, rfl, e6, hL, pr, ok, ne, len⟩
      have hi2 : i + 1 ≤ n.toNat := by omega
      walk_at "st"
      refine ⟨by omega, by omega, ?_⟩
      refine for_range (fun j σ H' => ∃ (v7 : Option V) (ts : List Addr) (l : List (Int × Int)), σ = [some (.ref b), some (.int lim), some (.int n), some (.int (mn : Nat)), some (.int k), some (.ref p), some (.int (1 + (i : Nat))), v7, none, none, none, none, none, none, none, none, none] ∧ Same H4 H' ∧ H' p = some (.lst (ts.map V.ref)) ∧ Prs H' ts l ∧ (∀ q ∈ l, PairOk n mn q) ∧ (0 < i ∨ 0 < j → l ≠ []) ∧ l.length ≤ i * n.toNat + j)
        ⟨v7, ts, l, rfl, e6, hL, pr, ok, fun h => ne (by omega), len⟩ ?_ ?_
      · rintro j σ H' hj ⟨v7, ts, l, rfl, e6, hL, pr, ok, ne, len⟩
        have lb : l.length < 33 * 33 := by
          have := Nat.mul_le_mul hi2 nb
          have q2 : i * n.toNat + n.toNat = (i + 1) * n.toNat := by rw [Nat.add_mul, Nat.one_mul]
          have q3 : (i + 1) * n.toNat ≤ 33 * 33 := Nat.mul_le_mul (by omega) nb
          omega
        walk_at "st"
        refine ⟨1 + (i : Nat), n, mn, rfl, by omega, by omega, by omega, by omega, by omega, ?_⟩
        walk_at "st"
        refine Rd.iC (by show 0 < n; omega) ?_
        walk_at "st"
        refine Rd.ite_d (fun c1 => ?_) (fun c1 => ?_)
        · walk_at "st"
          refine Rd.iC (.inl ⟨by omega, by omega⟩) ?_
          walk_at "st"
          refine Rd.iC (by show 0 < n; omega) ?_
          walk_at "st"
          refine Rd.ite_d (fun c2 => ?_) (fun c2 => ?_)
          · walk_at "st"
            refine Rd.tyL hL ?_
            walk_at "st"
            refine ⟨line2, fun t ht => ?_⟩
            have ntp : p ≠ t := ne_of_none hL ht
            walk_at "st"
            refine Rd.app (by rw [upd_ne ntp]; exact hL) (by rw [List.length_map, pr.len]; exact big _ (by omega)) ?_
            walk_at "st"
            refine ⟨_, ts ++ [t], l ++ [((1 + (i : Int), 0 + (j : Int)) : Int × Int)], rfl, Rd.same_mut (Rd.same_add e6 ht) hp, by rw [upd_same, List.map_append]; rfl, ?_, ?_, fun _ z => by simp at z, by rw [List.length_append, List.length_singleton]; omega⟩
            · refine Prs.snoc ((pr.same (Rd.same_mk ht)).but (p := p) (xs := ts.map V.ref) (by rw [upd_ne ntp]; exact hL) Rd.But.put) ?_
              rw [upd_ne ntp.symm]; exact upd_same
            · intro q hq
              rcases List.mem_append.mp hq with h | h
              · exact ok q h
              · rw [List.mem_singleton.mp h]
                exact ⟨by show 1 ≤ 1 + (i : Int); omega, by show 1 + (i : Int) ≤ n; omega, by show 0 ≤ 0 + (j : Int); omega, by show 0 + (j : Int) < n; omega, by rw [Int.toNat_natCast]; exact c1, c2⟩
          · walk_at "st"
            refine ⟨_, ts, l, rfl, e6, hL, pr, ok, fun h => ne ?_, by omega⟩
            apply Classical.byContradiction
            intro z
            refine c2 ?_
            have i0 : i = 0 := by omega
            subst i0
            show (1 + ((0 : Nat) : Int) - 1) * (0 + (j : Int)) % n = 0
            rw [show 1 + ((0 : Nat) : Int) - 1 = 0 by rfl, Int.zero_mul, Int.zero_emod]
        · walk_at "st"
          refine ⟨_, ts, l, rfl, e6, hL, pr, ok, fun h => ne ?_, by omega⟩
          apply Classical.byContradiction
          intro z
          refine c1 ?_
          have i0 : i = 0 := by omega
          subst i0
          exact pwm_one mn
      · rintro σ H' ⟨v7, ts, l, rfl, e6, hL, pr, ok, ne, len⟩
        walk_at "st"
        refine ⟨_, _, ts, l, rfl, e6, hL, pr, ok, fun _ => ne (.inr (by omega)), ?_⟩
        have q2 : i * n.toNat + n.toNat = (i + 1) * n.toNat := by rw [Nat.add_mul, Nat.one_mul]
        omega
    · rintro σ H' ⟨v6, v7, ts, l, rfl, e6, hL, pr, ok, ne, len⟩
      have ne2 := ne (by omega)
      have lb : l.length ≤ 33 * 33 := by
        have := Nat.mul_le_mul (by omega : (n + 1 - 1).toNat ≤ 33) nb
        omega
      walk_at "sj"
      refine Rd.itl' (SqL.of hL) ?_
      refine Rd.lcIf (fun i => .ref (ts.getD i 0)) (fun i => decide (1 < (l.getD i (0, 0)).1)) (Rd.src_list (SqL.of hL)) (by rw [List.length_map, pr.len]; omega) (by intro _; rfl) (fun i x H8 Q1 hx e8 q1 => ?_) (fun i x H8 Q1 hx _ e8 q1 => ?_) (fun p8 H8 hp8 e8 h8 => ?_)
      · obtain ⟨t, q, rfl, t1, t2, t3⟩ := pr.get hx
        rw [getD_of t2] at q1
        walk_at "st"
        refine Rd.ixT (SqT.of (e8 _ _ t3)) at0 ?_
        walk_at "st"
        exact q1
      · obtain ⟨t, q, rfl, t1, t2, t3⟩ := pr.get hx
        rw [getD_of t1] at q1
        walk_at "st"
        exact q1 _ (Same.refl _)
      have hidx : ∀ j ∈ (List.range (ts.map V.ref).length).filter (fun i => decide (1 < (l.getD i (0, 0)).1)), j < l.length := fun j hj => by
        have := List.mem_range.mp (List.mem_filter.mp hj).1
        rw [List.length_map, pr.len] at this
        exact this
      have pr8 := (pr.same e8).pick _ hidx
      have ok8 := Rd.pick_mem (l := l) _ hidx
      have len8 : ((List.range (ts.map V.ref).length).filter (fun i => decide (1 < (l.getD i (0, 0)).1))).length ≤ 33 * 33 := by
        refine Nat.le_trans (m := (ts.map V.ref).length) ?_ (by rw [List.length_map, pr.len]; omega)
        have := List.length_filter_le (fun i => decide (1 < (l.getD i (0, 0)).1)) (List.range (ts.map V.ref).length)
        rw [List.length_range] at this
        exact this
      generalize (List.range (ts.map V.ref).length).filter (fun i => decide (1 < (l.getD i (0, 0)).1)) = idx at h8 pr8 ok8 len8
      have e9 := e6.trans e8
      have hb8 := hb4.same e9
      have hL8 := e8 _ _ hL
      have pr0 := pr.same e8
      walk_at "sj"
      with_reducible refine Rd.seqJ (fun σ' H' => ∃ (pp : Addr) (ts : List Addr) (l : List (Int × Int)), σ' = [some (.ref b), some (.int lim), some (.int n), some (.int (mn : Nat)), some (.int k), some (.ref pp), v6, v7, some (.ref p8), none, none, none, none, none, none, none, none] ∧ Bag H' b ∧ But b H H' ∧ H' pp = some (.lst (ts.map V.ref)) ∧ Prs H' ts l ∧ (∀ q ∈ l, PairOk n mn q) ∧ l ≠ [] ∧ l.length ≤ 33 * 33) ?_ fun N2 hN2 => ?_
      · rintro σ H5 ⟨pp, ts5, l5, rfl, hb5, e10, hL5, pr5, ok5, ne5, len5⟩
        obtain ⟨l5p, hl5⟩ : ∃ z, z = l5.length := ⟨_, rfl⟩
        have l5pos : 0 < l5.length := List.length_pos_iff.mpr ne5
        walk_at "sj"
        refine Rd.len1 (.inl (SqL.of hL5)) ?_
        walk_at "sj"
        rw [List.length_map, pr5.len]
        refine ⟨b, _, rfl, by omega, by omega, hb5, fun v H6 v0 v1 hb6 e11 => ?_⟩
        have hL6 : H6 pp = some (.lst (ts5.map V.ref)) := e11 pp _ (fun z => by
          obtain ⟨x, y, w1, _⟩ := hb5
          rw [z, w1] at hL5
          cases ts5 with
          | nil => cases hL5
          | cons a as => cases hL5) hL5
        have pr6 : Prs H6 ts5 l5 := by
          obtain ⟨x, y, w1, _⟩ := hb5
          exact pr5.but w1 e11
        have e12 := e10.trans e11
        have hv : v.toNat < l5.length := by omega
        have hq : l5[v.toNat]? = some l5[v.toNat] := List.getElem?_eq_getElem hv
        have hv2 : v.toNat < ts5.length := by rw [pr6.len]; exact hv
        have ht : ts5[v.toNat]? = some ts5[v.toNat] := List.getElem?_eq_getElem hv2
        generalize l5[v.toNat] = q at hq
        generalize ts5[v.toNat] = t at ht
        have hT := pr6.at_ _ _ _ ht hq
        obtain ⟨q1, q2, q3, q4, q5, q6⟩ := ok5 q (List.mem_of_getElem? hq)
        refine Rd.ixL (SqL.of hL6) (at_of (j := v.toNat) (v := .ref t) (by omega) (by rw [List.getElem?_map, ht]; rfl)) ?_
        walk_at "sj"
        refine ⟨Nat.zero_le _, fun tb htb => ?_⟩
        have tb0 := butFree e12 (hb6.ne htb).symm htb
        walk_at "sj"
        refine Rd.iC (.inl ⟨by omega, by omega⟩) ?_
        walk_at "sj"
        obtain ⟨kk1, kk2⟩ := le_mul1 (a := n * (mn : Int)) (b := k) (by omega) k1
        refine Rd.iC (.inl ⟨by omega, by omega⟩) ?_
        walk_at "sj"
        refine ⟨by omega, by omega, ?_⟩
        have rr : ∀ x y : Int, 0 ≤ metaE n mn k q.1 q.2 x y ∧ metaE n mn k q.1 q.2 x y < n * mn * k := fun x y => metaE_range n1 m1 k1
        have N33 : (n * (mn : Int) * k).toNat ≤ 33 := by omega
        have kd : ∀ x : Int, CDivW x k := fun x => wide_div (b := 64) (by omega) (by omega) (by decide) (by decide)
        obtain ⟨mk1, mk2⟩ := le_mul1 (a := (mn : Int)) (b := k) m1 k1
        have mk3 : (mn : Int) * k ≤ n * mn * k := by
          rw [Int.mul_assoc]
          exact (le_mul1 n1 (by omega)).2
        have mkd : ∀ x : Int, CDivW x ((mn : Int) * k) := fun x => wide_div (b := 64) (by omega) (by omega) (by decide) (by decide)
        have md : ∀ x : Int, 0 ≤ x % (mn : Int) ∧ x % (mn : Int) < mn := fun x => ⟨Int.emod_nonneg _ (by omega), Int.emod_lt_of_pos _ (by omega)⟩
        have nd_ : ∀ x : Int, 0 ≤ x % n ∧ x % n < n := fun x => ⟨Int.emod_nonneg _ (by omega), Int.emod_lt_of_pos _ (by omega)⟩
        generalize hN : (n * (mn : Int) * k).toNat = Nn at N33
        refine for_range (fun i σ H' => ∃ (v11 v12 v13 v14 v15 v16 : Option V) (as : List Addr), σ = [some (.ref b), some (.int lim), some (.int n), some (.int (mn : Nat)), some (.int k), some (.ref pp), v6, v7, some (.ref p8), some (.ref t), some (.ref tb), v11, v12, v13, v14, v15, v16] ∧ Same H6 H' ∧ H' tb = some (.lst (as.map V.ref)) ∧ as.length = i ∧
            (∀ (j : Nat) (a : Addr), as[j]? = some a → H' a = some (.lst (((List.range Nn).map fun y => metaE n mn k q.1 q.2 (j : Nat) (y : Nat)).map V.int)) ∧ H6 a = none ∧ a ≠ tb) ∧ as.Nodup)
          ⟨none, none, none, none, none, none, [], rfl, Rd.same_mk htb, upd_same, rfl, fun j a h => by simp at h, List.nodup_nil⟩ ?_ ?_
        · rintro i σ H7 hi ⟨v11, v12, v13, v14, v15, v16, as, rfl, e13, hTb, la, hrow, nd⟩
          rw [Int.zero_add]
          walk_at "st"
          refine Rd.ixT (SqT.of (e13 _ _ hT)) at0 ?_
          walk_at "st"
          refine Rd.iC (kd _) ?_
          walk_at "st"
          refine Rd.iC (by show 0 < (mn : Int); omega) ?_
          walk_at "st"
          obtain ⟨u0, u1⟩ := md ((i : Int) / k)
          refine ⟨q.1, n, ((i : Int) / k % mn).toNat, by rw [Int.toNat_of_nonneg u0]; rfl, n1, by omega, by omega, by omega, by omega, ?_⟩
          obtain ⟨w0, w1⟩ := pwm_range (b := q.1) n1 ((i : Int) / k % mn).toNat
          walk_at "st"
          refine ⟨Nat.zero_le _, fun rw_ hrw => ?_⟩
          have rtb : rw_ ≠ tb := fun z => by rw [z, hTb] at hrw; cases hrw
          walk_at "st"
          refine Rd.iC (.inl ⟨by omega, by omega⟩) ?_
          walk_at "st"
          refine Rd.iC (.inl ⟨by omega, by omega⟩) ?_
          walk_at "st"
          refine ⟨by omega, by omega, ?_⟩
          rw [hN]
          generalize hturn : pwm q.1 n ((i : Int) / k % mn).toNat = turn at w0 w1
          refine for_range (fun j σ H' => ∃ (v14 v15 v16 : Option V), σ = [some (.ref b), some (.int lim), some (.int n), some (.int (mn : Nat)), some (.int k), some (.ref pp), v6, v7, some (.ref p8), some (.ref t), some (.ref tb), some (.int (i : Nat)), some (.int turn), some (.ref rw_), v14, v15, v16] ∧ Same H7 H' ∧ H' rw_ = some (.lst (((List.range j).map fun y => metaE n mn k q.1 q.2 (i : Nat) (y : Nat)).map V.int)))
            ⟨v14, v15, v16, rfl, Rd.same_mk hrw, upd_same⟩ ?_ ?_
          · rintro j σ H8 hj ⟨v14, v15, v16, rfl, e14, hRw⟩
            rw [Int.zero_add]
            walk_at "sj"
            refine Rd.iC (.inl ⟨by omega, by omega⟩) ?_
            walk_at "sj"
            refine Rd.iC (mkd _) ?_
            walk_at "sj"
            refine Rd.iC (.inl ⟨by omega, by omega⟩) ?_
            walk_at "sj"
            refine Rd.iC (mkd _) ?_
            walk_at "sj"
            refine Rd.iC (.inl ⟨by omega, by omega⟩) ?_
            walk_at "sj"
            refine Rd.iC (kd _) ?_
            walk_at "sj"
            refine Rd.iC (by show 0 < (mn : Int); omega) ?_
            walk_at "sj"
            refine Rd.iC (kd _) ?_
            walk_at "sj"
            refine Rd.iC (by show 0 < (mn : Int); omega) ?_
            walk_at "sj"
            generalize ha0 : (i : Int) / ((mn : Int) * k) + turn * ((j : Int) / ((mn : Int) * k)) = a0
            generalize hb0 : (i : Int) / k % (mn : Int) + (j : Int) / k % (mn : Int) = b0
            with_reducible refine Rd.seqJ (fun σ' H' => σ' = [some (.ref b), some (.int lim), some (.int n), some (.int (mn : Nat)), some (.int k), some (.ref pp), v6, v7, some (.ref p8), some (.ref t), some (.ref tb), some (.int (i : Nat)), some (.int turn), some (.ref rw_), some (.int (j : Nat)), some (.int (if (mn : Int) ≤ b0 then a0 + q.2 else a0)), some (.int b0)] ∧ H' = H8) ?_ fun N3 hN3 => ?_
            · rintro σ' H' ⟨rfl, rfl⟩
              walk_at "st"
              refine Rd.tyL hRw ?_
              walk_at "st"
              refine Rd.iC (by show 0 < n; omega) ?_
              walk_at "st"
              generalize hX : (if (mn : Int) ≤ b0 then a0 + q.2 else a0) = X
              obtain ⟨x0, x1⟩ := nd_ X
              obtain ⟨y0, y1⟩ := md b0
              refine Rd.iC (.inl ⟨by omega, by omega⟩) ?_
              walk_at "st"
              refine Rd.iC (by show 0 < (mn : Int); omega) ?_
              walk_at "st"
              refine Rd.iC (.inr ⟨by omega, by omega⟩) ?_
              walk_at "st"
              refine Rd.iC (by show 0 < k; omega) ?_
              walk_at "st"
              have val : (X % n * (mn : Int) + b0 % (mn : Int)) * k + ((i : Int) + (j : Int)) % k = metaE n mn k q.1 q.2 (i : Nat) (j : Nat) := by
                unfold metaE
                simp only []
                rw [hturn, ha0, hb0, hX]
              refine Rd.app hRw (by rw [List.length_map, List.length_map, List.length_range]; exact big _ (by omega)) ?_
              walk_at "st"
              refine ⟨_, _, _, rfl, Rd.same_mut e14 hrw, ?_⟩
              rw [upd_same, List.range_succ, List.map_append, List.map_append]
              show some (HO.lst (_ ++ [V.int ((X % n * (mn : Int) + b0 % (mn : Int)) * k + ((i : Int) + (j : Int)) % k)])) = _
              rw [val]; rfl
            · walk_at "st"
              refine Rd.ite_d (fun c => ?_) (fun c => ?_)
              · walk_at "st"
                refine Rd.ixT (SqT.of (e14 _ _ (e13 _ _ hT))) at1 ?_
                walk_at "st"
                exact hN3 _ _ ⟨by rw [if_pos c]; rfl, rfl⟩
              · walk_at "st"
                exact hN3 _ _ ⟨by rw [if_neg c]; rfl, rfl⟩
          · rintro σ H8 ⟨v14, v15, v16, rfl, e14, hRw⟩
            walk_at "st"
            have hTb8 := e14 _ _ hTb
            refine Rd.tyL hTb8 ?_
            walk_at "st"
            refine Rd.app hTb8 (by rw [List.length_map]; exact big _ (by omega)) ?_
            walk_at "st"
            have rn : rw_ ∉ as := fun hm => by
              obtain ⟨j, hj⟩ := List.getElem?_of_mem hm
              rw [(hrow j rw_ hj).1] at hrw
              cases hrw
            refine ⟨_, _, _, _, _, _, as ++ [rw_], rfl, Rd.same_mut (e13.trans e14) htb, by rw [upd_same, List.map_append]; rfl, by rw [List.length_append, la]; rfl, fun j a ha => ?_, List.nodup_append.mpr ⟨nd, by simp, fun x hx y hy => by rw [List.mem_singleton.mp hy]; intro z; exact rn (z ▸ hx)⟩⟩
            by_cases c : j < as.length
            · rw [List.getElem?_append_left c] at ha
              obtain ⟨h1, h2, h3⟩ := hrow j a ha
              exact ⟨by rw [upd_ne h3]; exact e14 _ _ h1, h2, h3⟩
            · have lu := (List.getElem?_eq_some_iff.mp ha).1
              rw [List.length_append, List.length_singleton] at lu
              have ej : j = as.length := by omega
              subst ej
              rw [List.getElem?_append_right (Nat.le_refl _), Nat.sub_self] at ha
              cases ha
              rw [la]
              exact ⟨by rw [upd_ne rtb]; exact hRw, Same.free e13 hrw, rtb⟩
        · rintro σ H7 ⟨v11, v12, v13, v14, v15, v16, as, rfl, e13, hTb, la, hrow, nd⟩
          walk_at "st"
          have tl : (metaT n mn k q.1 q.2).length = Nn := by unfold metaT; rw [List.length_map, List.length_range, hN]
          refine kQ n mn k q.1 q.2 tb H7 ⟨n1, m1, k1, q1, q2, q3, q4, q5, q6⟩ (by omega) (hb6.same e13) (butSame e12 e13) ⟨tb0, as, hTb, ⟨by rw [la, tl], fun j a r h1 h2 => ?_⟩, fun a ha => ?_, nd⟩
          · obtain ⟨h3, _, _⟩ := hrow j a h1
            unfold metaT at h2
            rw [hN] at h2
            have hj : j < Nn := by rw [← la]; exact (List.getElem?_eq_some_iff.mp h1).1
            rw [List.getElem?_map, List.getElem?_range hj] at h2
            cases h2
            exact h3
          · obtain ⟨j, hj⟩ := List.getElem?_of_mem ha
            obtain ⟨h3, h4, h5⟩ := hrow j a hj
            exact ⟨butFree e12 (hb6.ne h4).symm h4, h5⟩
      · walk_at "st"
        refine Rd.len1 (.inl (SqL.of h8)) ?_
        walk_at "st"
        refine Rd.ite_d (fun c => ?_) (fun c => ?_)
        · walk_at "st"
          refine ⟨b, 4, rfl, by decide, by decide, hb8, fun v H9 v0 v1 hb9 e10 => ?_⟩
          have k9 : ∀ (q : Addr) (xs : List Addr), H8 q = some (.lst (xs.map V.ref)) → H9 q = some (.lst (xs.map V.ref)) := fun q xs hq => e10 q _ (fun z => by
            obtain ⟨x, y, w1, _⟩ := hb8
            rw [z, w1] at hq
            cases xs with
            | nil => cases hq
            | cons a as => cases hq) hq
          have prb : ∀ {us : List Addr} {ls : List (Int × Int)}, Prs H8 us ls → Prs H9 us ls := fun pr => by
            obtain ⟨x, y, w1, _⟩ := hb8
            exact pr.but w1 e10
          walk_at "st"
          refine Rd.ite_d (fun c2 => ?_) (fun c2 => ?_)
          · walk_at "st"
            refine hN2 _ _ ⟨p8, _, _, rfl, hb9, (butSame e5 e9).trans e10, k9 _ _ (by rw [h8, List.map_map]; rfl), prb pr8, fun q hq => ok q (ok8 q hq), ?_, by rw [List.length_map]; exact len8⟩
            rw [List.length_map] at c
            intro z
            have := congrArg List.length z
            rw [List.length_map, List.length_nil] at this
            omega
          · walk_at "st"
            exact hN2 _ _ ⟨p, ts, l, rfl, hb9, (butSame e5 e9).trans e10, k9 _ _ hL8, prb pr0, ok, ne2, lb⟩
        · walk_at "st"
          exact hN2 _ _ ⟨p, ts, l, rfl, hb8, butSame e5 e9, hL8, pr0, ok, ne2, lb⟩
  · walk_at "st"
    refine Rd.ite_d (fun c => ?_) (fun c => ?_)
    · walk_at "st"
      refine ⟨b, 2, rfl, by decide, by decide, hb2, fun v H3 v0 v1 hb3 e3 => ?_⟩
      walk_at "st"
      refine Rd.ite_d (fun c2 => ?_) (fun c2 => ?_)
      · walk_at "st"
        refine Rd.iC (wide_div (b := 64) (by omega) (by omega) (by decide) (by decide)) ?_
        walk_at "st"
        have h2 := Int.mul_ediv_add_emod lim 2
        have h3 := Int.emod_nonneg lim (by decide : (2 : Int) ≠ 0)
        have h4 := Int.emod_lt_of_pos lim (by decide : (0 : Int) < 2)
        refine ⟨b, _, rfl, by omega, by omega, hb3, fun v2 H4 w0 w1 hb4 e4 => ?_⟩
        walk_at "st"
        exact hN _ _ ⟨3 + v2, 2, rfl, by omega, by decide, by omega, hb4, ((e1.trans e2).trans e3).trans e4⟩
      · walk_at "st"
        exact hN _ _ ⟨1 + n0, 1 + m0, rfl, by omega, by omega, fit1, hb3, (e1.trans e2).trans e3⟩
    · walk_at "st"
      exact hN _ _ ⟨1 + n0, 1 + m0, rfl, by omega, by omega, fit1, hb2, e1.trans e2⟩
end
end K10

set_option Elab.async false
set_option linter.all false
set_option maxRecDepth 100000
set_option maxHeartbeats 4000000
namespace K10
open PySem L2 Rd GT
local macro_rules | `(tactic| walk_at "st1") => `(tactic| with_reducible first
  | refine' Rd.seq ?_ | refine' Rd.nxt ?_ | refine' Rd.asg ?_ | refine' Rd.nm ?_ | refine' Rd.con ?_ | refine' Rd.op ?_ | refine' Rd.i0 ?_ | refine' Rd.un ?_ | refine' Rd.u0 ?_
  | refine' Rd.eqI ?_ | refine' Rd.neI ?_ | refine' Rd.eqB ?_ | refine' Rd.tst ?_ | refine' Rd.tB_ ?_ | refine' Rd.exb ?_ | refine' Rd.ifS ?_ | refine' Rd.ret ?_ | refine' Rd.retN ?_ | refine' Rd.drop ?_
  | refine' Rd.nil ?_ | refine' Rd.cons ?_ | refine' Rd.cb ?_ | refine' Rd.call ?_ | refine' Rd.callN ?_ | refine' Rd.andT ?_ | refine' Rd.orT ?_ | refine' Rd.notT ?_ | refine' Rd.andV ?_ | refine' Rd.orV ?_ | refine' Rd.notV ?_ | refine' Rd.chain ?_
  | refine' Rd.lst ?_ | refine' Rd.tup ?_ | refine' Rd.for_ ?_ | refine' Rd.rng1 ?_ | refine' Rd.rng2 ?_ | refine' Rd.itl ?_ | refine' Rd.itt ?_ | refine' Rd.sub ?_
  | refine' Rd.lrg ?_ | refine' Rd.rg1 ?_ | refine' Rd.rg2 ?_ | refine' Rd.exi ?_ | refine' Rd.exi2 ?_ | refine' Rd.int1 ?_ | refine' Rd.ex1 ?_ | refine' Rd.ex2 ?_
  | refine' Rd.fld ?_ | refine' Rd.sfld ?_ | refine' Rd.meth ?_ | refine' Rd.make ?_ | refine' Rd.lc ?_ | refine' Rd.bm ?_ | refine' Rd.bm0 ?_ | refine' Rd.bt ?_ | refine' Rd.enT ?_ | refine' Rd.enL ?_)
local macro_rules | `(tactic| walk_at "st") => `(tactic| repeat (first | walk_at "st1" | ((with_reducible refine' Rd.var ?hv ?_); (case hv => rfl))))
local macro_rules | `(tactic| walk_at "sj1") => `(tactic| with_reducible first
  | refine' Rd.seqA ?_ | refine' Rd.seqD ?_ | refine' Rd.seqF ?_ | refine' Rd.seqW ?_ | refine' Rd.nxt ?_ | refine' Rd.asg ?_ | refine' Rd.nm ?_ | refine' Rd.con ?_ | refine' Rd.op ?_ | refine' Rd.i0 ?_ | refine' Rd.un ?_ | refine' Rd.u0 ?_
  | refine' Rd.eqI ?_ | refine' Rd.neI ?_ | refine' Rd.eqB ?_ | refine' Rd.tst ?_ | refine' Rd.tB_ ?_ | refine' Rd.exb ?_ | refine' Rd.ifS ?_ | refine' Rd.ret ?_ | refine' Rd.retN ?_ | refine' Rd.drop ?_
  | refine' Rd.nil ?_ | refine' Rd.cons ?_ | refine' Rd.cb ?_ | refine' Rd.call ?_ | refine' Rd.callN ?_ | refine' Rd.andT ?_ | refine' Rd.orT ?_ | refine' Rd.notT ?_ | refine' Rd.andV ?_ | refine' Rd.orV ?_ | refine' Rd.notV ?_ | refine' Rd.chain ?_
  | refine' Rd.lst ?_ | refine' Rd.tup ?_ | refine' Rd.for_ ?_ | refine' Rd.rng1 ?_ | refine' Rd.rng2 ?_ | refine' Rd.itl ?_ | refine' Rd.itt ?_ | refine' Rd.sub ?_
  | refine' Rd.lrg ?_ | refine' Rd.rg1 ?_ | refine' Rd.rg2 ?_ | refine' Rd.exi ?_ | refine' Rd.exi2 ?_ | refine' Rd.int1 ?_ | refine' Rd.ex1 ?_ | refine' Rd.ex2 ?_
  | refine' Rd.fld ?_ | refine' Rd.sfld ?_ | refine' Rd.meth ?_ | refine' Rd.make ?_ | refine' Rd.lc ?_ | refine' Rd.bm ?_ | refine' Rd.bm0 ?_ | refine' Rd.bt ?_ | refine' Rd.enT ?_ | refine' Rd.enL ?_)
local macro_rules | `(tactic| walk_at "sj") => `(tactic| repeat (first | walk_at "sj1" | ((with_reducible refine' Rd.var ?hv ?_); (case hv => rfl))))
def sp_perm : Sp := fun vs H Q _ => ∃ (b : Addr), vs = [.ref b] ∧ Bag H b ∧ ∀ (fs : List (List Int)) (p : Addr) (H' : Hp), PermOk fs → Bag H' b → But b H H' → TabN H H' p (permT fs) → Q (.ref p) H'
section
variable {P : Program} {w : World} {K : PySem.W.Frag} {mg : Str → Option Value} {base : Heap} {f : Addr} {fd : FuncData}
abbrev s__law_permutations : Stmt := (top 26)
theorem sc__law_permutations : FnScope ["bag", "makers", "k", "left", "row", "j", "found", "at", "maker", "point", "table", "p", "q"] ["bag"] (defScope s__law_permutations) := ⟨rfl, rfl, rfl, by decide +kernel, rfl, by decide +kernel, by decide +kernel⟩
theorem ok_perm (F : FnP K "_law_permutations" "_law_permutations" s__law_permutations f fd) (T : Txt K mg) (D__law_take : DOk P w K mg base CX0 "_law_take" 1 ["bag", "size"] sp_take) : FnOk P w K mg base CX0 2 f fd ["bag"] sp_perm := by
  refine F.ok sc__law_permutations (fun vs H Q E h => ?_) (fun cdv A outer s H vs Q E hr h => ?_)
  · obtain ⟨_, rfl, _⟩ := h; rfl
  obtain ⟨b, rfl, hb, kQ⟩ := h
  refine ⟨_, PSs.nox (pss_cons (ps_set (i := 1) sc__law_permutations.nd rfl (Or.inl rfl) (pe_lst pa_nil))
  (pss_cons (ps_for PassesOwn.never rfl (pi_range1 rfl T.range (pa_cons pe_int pa_nil)) (pg_name (i := 2) sc__law_permutations.nd rfl (Or.inl rfl))
  (pss_cons (ps_set (i := 3) sc__law_permutations.nd rfl (Or.inl rfl) (pe_lst (pa_cons pe_int (pa_cons pe_int (pa_cons pe_int (pa_cons pe_int pa_nil))))))
  (pss_cons (ps_set (i := 4) sc__law_permutations.nd rfl (Or.inl rfl) (pe_lst pa_nil))
  (pss_cons (ps_for PassesOwn.never rfl (pi_range1 rfl T.range (pa_cons pe_int pa_nil)) (pg_name (i := 5) sc__law_permutations.nd rfl (Or.inl rfl))
  (pss_one (ps_expr (Rk.bm K rfl PySem.F.plainAttrs_list PySem.F.slot_list_append PySem.F.type_list_append mt_append (pv 4) (pa_cons (Rk.bm K rfl PySem.F.plainAttrs_list PySem.F.slot_list_pop PySem.F.type_list_pop mt_popAt (pv 3) (pa_cons (callX D__law_take (hr.mono (by decide)) (passN) (pa_cons (pv 0) (pa_cons (pe_callB (Rk.len K) rfl T.len PySem.boot_len (pa_cons (pv 3) pa_nil)) pa_nil))) pa_nil)) pa_nil)))))
  (pss_one (ps_expr (Rk.bm K rfl PySem.F.plainAttrs_list PySem.F.slot_list_append PySem.F.type_list_append mt_append (pv 1) (pa_cons (pv 4) pa_nil))))))))
  (pss_cons (ps_set (i := 6) sc__law_permutations.nd rfl (Or.inr rfl) (pe_lst (pa_cons (pe_lst (pa_cons pe_int (pa_cons pe_int (pa_cons pe_int (pa_cons pe_int pa_nil))))) pa_nil)))
  (pss_cons (ps_for PassesOwn.never rfl (pi_range1 rfl T.range (pa_cons pe_int pa_nil)) (pg_name (i := 7) sc__law_permutations.nd rfl (Or.inl rfl))
  (pss_one (ps_if (pt_cmpR op_lt (pv 7) (pe_callB (Rk.len K) rfl T.len PySem.boot_len (pa_cons (pv 6) pa_nil)) (nomark _))
  (pss_one (ps_for PassesOwn.never rfl (Rk.pl K rfl (pv 1)) (pg_name (i := 8) sc__law_permutations.nd rfl (Or.inr rfl))
  (pss_cons (ps_setLc (i := 4) (own := [("point", 9)]) rfl sc__law_permutations.nd rfl rfl (sw_true rfl rfl rfl (by decide +kernel)) (Rk.pl K rfl (pe_ix (Rk.ixL K) (pv 6) (pv 7) (fun _ _ => rfl))) (blkOk_by (own := [("point", 9)]) (N := ["bag", "makers", "k", "left", "row", "j", "found", "at", "maker", "point", "table", "p", "q"]) (sc := defScope s__law_permutations) (by decide +kernel)) (fun _ _ _ _ _ => (pg_name (i := 9) sc__law_permutations.nd rfl (Or.inl rfl))) (fun _ _ _ _ _ => pts_nil) (fun _ _ _ _ _ => (pe_ix (Rk.ixL K) (pv 8) (pv 9) (fun _ _ => rfl))))
  (pss_one (ps_if (pt_cmpR (Rk.ninD K rfl (un65 hr)) (pv 4) (pv 6) (by with_unfolding_all rfl))
  (pss_one (ps_expr (Rk.bm K rfl PySem.F.plainAttrs_list PySem.F.slot_list_append PySem.F.type_list_append mt_append (pv 6) (pa_cons (pv 4) pa_nil))))
  pss_nil)))))
  pss_nil)))
  (pss_cons (ps_set (i := 6) sc__law_permutations.nd rfl (Or.inr rfl) (pe_callB (Rk.sortLL K rfl (un8 hr)) rfl T.sorted (by decide +kernel) (pa_cons (pv 6) pa_nil)))
  (pss_cons (ps_set (i := 10) sc__law_permutations.nd rfl (Or.inl rfl) (pe_lst pa_nil))
  (pss_cons (ps_for PassesOwn.never rfl (Rk.pl K rfl (pv 6)) (pg_name (i := 11) sc__law_permutations.nd rfl (Or.inr rfl))
  (pss_one (ps_expr (Rk.bm K rfl PySem.F.plainAttrs_list PySem.F.slot_list_append PySem.F.type_list_append mt_append (pv 10) (pa_cons (pe_lc (own := [("q", 12)]) rfl sc__law_permutations.nd (Rk.pl K rfl (pv 6)) (blkOk_by (own := [("q", 12)]) (N := ["bag", "makers", "k", "left", "row", "j", "found", "at", "maker", "point", "table", "p", "q"]) (sc := defScope s__law_permutations) (by decide +kernel)) (fun _ _ _ _ _ => (pg_name (i := 12) sc__law_permutations.nd rfl (Or.inr rfl))) (fun _ _ _ _ _ => pts_nil) (fun _ _ _ _ _ => (Rk.bm K rfl PySem.F.plainAttrs_list PySem.F.slot_list_index PySem.F.type_list_index (Rk.indexD K rfl (un65 hr)) (pv 6) (pa_cons (pe_lc (own := [("point", 9)]) rfl sc__law_permutations.nd (Rk.pl K rfl (pv 11)) (blkOk_by (own := [("point", 9)]) (N := ["bag", "makers", "k", "left", "row", "j", "found", "at", "maker", "point", "table", "p", "q"]) (sc := (relS { kind := .function, names := [(".0", .local), ("q", .cell), ("found", .free), ("p", .free)], isGenerator := false, isCoroutine := false } (defScope s__law_permutations))) (by decide +kernel)) (fun _ _ _ _ _ => (pg_name (i := 9) sc__law_permutations.nd rfl (Or.inl rfl))) (fun _ _ _ _ _ => pts_nil) (fun _ _ _ _ _ => (pe_ix (Rk.ixL K) (pv 12) (pv 9) (fun _ _ => rfl)))) pa_nil)))) pa_nil)))))
  (pss_one (ps_ret (pv 10)))))))))), ?_⟩
  walk_at "st"
  refine ⟨Nat.zero_le _, fun mk hmk => ?_⟩
  have nbm := hb.ne hmk
  walk_at "st"
  refine ⟨by decide, by decide, ?_⟩
  refine for_range (fun i σ H' => ∃ (v2 v3 v4 v5 : Option V) (as : List Addr) (ms : List (List Int)), σ = [some (.ref b), some (.ref mk), v2, v3, v4, v5, none, none, none, none, none, none, none] ∧ Bag H' b ∧ But b H H' ∧ H' mk = some (.lst (as.map V.ref)) ∧ Rows LstN H' as ms ∧ (∀ m ∈ ms, m ∈ perms4) ∧ as.length ≤ i)
    ⟨none, none, none, none, [], [], rfl, hb.put nbm, butAdd (Rd.But.refl _ _) hmk, upd_same, ⟨rfl, fun i a r h => by simp at h⟩, (fun m h => by cases h), Nat.le_refl 0⟩ ?_ ?_
  · rintro i σ H5 hi ⟨v2, v3, v4, v5, as, ms, rfl, hb5, e5, hM5, rows5, p4s, la⟩
    walk_at "st"
    refine ⟨(by decide : 4 ≤ sizeLine), fun lf hlf => ?_⟩
    walk_at "st"
    refine ⟨Nat.zero_le _, fun rw_ hrw => ?_⟩
    have nlr : lf ≠ rw_ := fun z => by rw [← z, upd_same] at hrw; cases hrw
    have hrw5 : H5 rw_ = none := Same.free (Rd.same_mk hlf) hrw
    have nbl := hb5.ne hlf
    have nbr := hb5.ne hrw5
    walk_at "st"
    refine ⟨by decide, by decide, ?_⟩
    refine for_range (fun j σ H' => ∃ (v5 : Option V) (L R : List Int), σ = [some (.ref b), some (.ref mk), some (.int (0 + (i : Nat))), some (.ref lf), some (.ref rw_), v5, none, none, none, none, none, none, none] ∧ Bag H' b ∧ But b H5 H' ∧ H' lf = some (.lst (L.map V.int)) ∧ H' rw_ = some (.lst (R.map V.int)) ∧ (R ++ L).Perm [0, 1, 2, 3] ∧ R.length = j)
      ⟨v5, [0, 1, 2, 3], [], rfl, (hb5.put nbl).put nbr, butAdd (butAdd (Rd.But.refl _ _) hlf) hrw, by rw [upd_ne nlr, upd_same]; rfl, upd_same, List.Perm.refl _, rfl⟩ ?_ ?_
    · rintro j σ H6 hj ⟨v5, L, R, rfl, hb6, e6, hL, hR, pm, lR⟩
      have ll := pm.length_eq
      rw [List.length_append] at ll
      have ll2 : R.length + L.length = 4 := ll
      walk_at "st"
      refine Rd.tyL hR ?_
      walk_at "st"
      refine Rd.tyL hL ?_
      walk_at "st"
      refine Rd.len1 (.inl (SqL.of hL)) ?_
      walk_at "st"
      rw [List.length_map]
      refine ⟨b, _, rfl, by omega, by omega, hb6, fun v H7 v0 v1 hb7 e7 => ?_⟩
      have hL7 := e7 lf _ nbl.symm hL
      have hR7 := e7 rw_ _ nbr.symm hR
      have hv : v.toNat < L.length := by omega
      have hy : L[v.toNat]? = some L[v.toNat] := List.getElem?_eq_getElem hv
      generalize L[v.toNat] = y at hy
      walk_at "st"
      refine ⟨lf, L.map V.int, v, v.toNat, .int y, rfl, rfl, hL7, by omega, by omega, (ixN_seq (ixN_of (by omega) (by rw [List.length_map]; exact hv))).1, map_get_int hy, ?_⟩
      walk_at "st"
      refine Rd.app (xs := R.map V.int) (by rw [upd_ne nlr.symm]; exact hR7) (by rw [List.length_map]; exact line_of (by omega)) ?_
      walk_at "st"
      refine ⟨_, L.eraseIdx v.toNat, R ++ [y], rfl, (hb7.put nbl).put nbr, butMut (butMut (e6.trans e7) hlf) hrw5, ?_, ?_, ?_, by rw [List.length_append, lR]; rfl⟩
      · rw [upd_ne nlr, upd_same, List.eraseIdx_eq_take_drop_succ, List.eraseIdx_eq_take_drop_succ, List.map_append, List.map_take, List.map_drop]
      · rw [upd_same, List.map_append]; rfl
      · rw [List.append_assoc]
        exact ((erase_perm hy).append_left R).trans pm
    · rintro σ H6 ⟨v5, L, R, rfl, hb6, e6, hL, hR, pm, lR⟩
      have ll := pm.length_eq
      rw [List.length_append] at ll
      have l0 : L = [] := List.eq_nil_of_length_eq_zero (by have : R.length + L.length = 4 := ll; have : R.length = 4 := lR; omega)
      rw [l0, List.append_nil] at pm
      have rp := p4_of pm
      have hM6 := e6 mk _ nbm.symm hM5
      have rows6 : Rows LstN H6 as ms := ⟨rows5.len, fun i a m h1 h2 => e6 a _ (fun z => by
        obtain ⟨x, y, w1, _⟩ := hb5
        have h3 := rows5.row i a m h1 h2
        unfold LstN at h3
        rw [z, w1] at h3
        have h4 := congrArg List.length (HO.lst.inj (Option.some.inj h3))
        rw [List.length_map, (p4_rng m (p4s m (List.mem_of_getElem? h2))).1] at h4
        cases h4) (rows5.row i a m h1 h2)⟩
      have nmr : mk ≠ rw_ := fun z => by rw [← z, hM5] at hrw5; cases hrw5
      walk_at "st"
      refine Rd.tyL hM6 ?_
      walk_at "st"
      refine Rd.app hM6 (by rw [List.length_map]; exact line_of (by omega)) ?_
      walk_at "st"
      have mk0 : H mk = none := hmk
      refine ⟨_, _, _, _, as ++ [rw_], ms ++ [R], rfl, hb6.put nbm, butMut (e5.trans e6) mk0, by rw [upd_same, List.map_append]; rfl, ⟨by rw [List.length_append, List.length_append, rows6.len]; rfl, fun j a m h1 h2 => ?_⟩, fun m hm => ?_, by rw [List.length_append, List.length_singleton]; omega⟩
      · by_cases c : j < as.length
        · rw [List.getElem?_append_left c] at h1
          rw [List.getElem?_append_left (by rw [← rows6.len]; exact c)] at h2
          have h3 := rows6.row j a m h1 h2
          unfold LstN at h3 ⊢
          rw [upd_ne (fun z => by
            rw [z, hM6] at h3
            have h4 := ref_int (HO.lst.inj (Option.some.inj h3))
            have h5 := (p4_rng m (p4s m (List.mem_of_getElem? h2))).1
            rw [h4] at h5
            cases h5)]
          exact h3
        · have lu := (List.getElem?_eq_some_iff.mp h1).1
          rw [List.length_append, List.length_singleton] at lu
          have ej : j = as.length := by omega
          subst ej
          rw [List.getElem?_append_right (Nat.le_refl _), Nat.sub_self] at h1
          rw [rows6.len, List.getElem?_append_right (Nat.le_refl _), Nat.sub_self] at h2
          cases h1
          cases h2
          unfold LstN
          rw [upd_ne nmr.symm]
          exact hR
      · rcases List.mem_append.mp hm with h | h
        · exact p4s m h
        · rw [List.mem_singleton.mp h]
          exact rp
  · rintro σ H5 ⟨v2, v3, v4, v5, as, ms, rfl, hb5, e5, hM5, rows5, p4s, la⟩
    have nMf : ∀ (as' : List Addr) (H' : Hp), Same H5 H' → Rows LstN H' as ms := fun _ H' e => rows5.sameL e
    walk_at "st"
    refine ⟨(by decide : 4 ≤ sizeLine), fun i0 hi0 => ?_⟩
    walk_at "st"
    refine ⟨(by decide : 1 ≤ sizeLine), fun fo hfo => ?_⟩
    have nif : i0 ≠ fo := fun z => by rw [← z, upd_same] at hfo; cases hfo
    have hfo5 : H5 fo = none := Same.free (Rd.same_mk hi0) hfo
    walk_at "st"
    refine ⟨by decide, by decide, ?_⟩
    refine for_range (fun i σ H' => ∃ (v4 v7 v8 : Option V) (fa : List Addr) (fs : List (List Int)), σ = [some (.ref b), some (.ref mk), v2, v3, v4, v5, some (.ref fo), v7, v8, none, none, none, none] ∧ Same H5 H' ∧ H' fo = some (.lst (fa.map V.ref)) ∧ Rows LstN H' fa fs ∧ (∀ a ∈ fa, H5 a = none ∧ a ≠ fo) ∧ fa.Nodup ∧ GenP ms fs ∧ (∀ j z, j < i → fs[j]? = some z → ∀ m ∈ ms, comp m z ∈ fs))
      ⟨v4, none, none, [i0], [id4], rfl, (Rd.same_mk hi0).trans (Rd.same_mk hfo), upd_same, ⟨rfl, fun j a r h1 h2 => ?_⟩, fun a ha => ?_, by simp, GenP.start ms, fun j z h => by omega⟩ ?_ ?_
    · cases j with
      | zero =>
        cases h1
        cases h2
        unfold LstN
        rw [upd_ne nif, upd_same]; rfl
      | succ j => simp at h1
    · rw [List.mem_singleton.mp ha]
      exact ⟨hi0, nif⟩
    · rintro i σ H6 hi ⟨v4, v7, v8, fa, fs, rfl, e6, hF, rows, new, nd, G, cl⟩
      rw [Int.zero_add]
      walk_at "st"
      refine Rd.len1 (.inl (SqL.of hF)) ?_
      walk_at "st"
      rw [List.length_map, rows.len]
      refine Rd.ite_d (fun c => ?_) (fun c => ?_)
      · have hif : i < fs.length := by omega
        have hz : fs[i]? = some fs[i] := List.getElem?_eq_getElem hif
        generalize fs[i] = z at hz
        have zm := List.mem_of_getElem? hz
        walk_at "st"
        refine Rd.itl' (SqL.of (e6 _ _ hM5)) ?_
        refine for_list (K := K) (a := mk) (xs := as.map V.ref) (fun x σ H' => ∃ (v4 v8 : Option V) (fa : List Addr) (fs2 : List (List Int)), σ = [some (.ref b), some (.ref mk), v2, v3, v4, v5, some (.ref fo), some (.int (i : Nat)), v8, none, none, none, none] ∧ Same H5 H' ∧ H' fo = some (.lst (fa.map V.ref)) ∧ Rows LstN H' fa fs2 ∧ (∀ a ∈ fa, H5 a = none ∧ a ≠ fo) ∧ fa.Nodup ∧ GenP ms fs2 ∧ (∃ more, fs2 = fs ++ more) ∧ (∀ j m, j < x → ms[j]? = some m → comp m z ∈ fs2))
          ⟨v4, v8, fa, fs, rfl, e6, hF, rows, new, nd, G, ⟨[], (List.append_nil _).symm⟩, fun j m h => by omega⟩ (fun x σ H' _ ⟨_, _, _, _, _, e, _⟩ => SqL.of (e _ _ hM5)) ?_ ?_
        · rintro x y σ H7 hy ⟨v4, v8, fa, fs2, rfl, e7, hF, rows, new, nd, G, ⟨more, rfl⟩, cl2⟩
          obtain ⟨am, m, rfl, h1, h2, h3⟩ := rows5.at hy
          have mm := List.mem_of_getElem? h2
          have m4 := (p4_rng m (p4s m mm)).1
          have hz2 : (fs ++ more)[i]? = some z := by rw [List.getElem?_append_left hif]; exact hz
          have zm2 := List.mem_of_getElem? hz2
          obtain ⟨z4, zr⟩ := p4_rng z (G.p4 z zm2)
          obtain ⟨az, z', g1, g2, g3⟩ := rows.get (i := i) (by rw [List.length_append]; omega)
          rw [hz2] at g2
          cases g2
          have few := G.few
          walk_at "st"
          refine Rd.ixL (SqL.of hF) (at_of (j := i) rfl (by rw [List.getElem?_map, g1]; rfl)) ?_
          refine Rd.itl' (SqL.of g3) ?_
          refine Rd.lcMap (fun n => .int (m.getD (z.getD n 0).toNat 0)) (Rd.src_list (SqL.of g3)) (by rw [List.length_map]; omega) (by intro _; rfl) (fun n y H8 Q1 hy e8 q1 => ?_) (fun rp H8 hrp e8 h8 => ?_)
          · obtain ⟨u, hu, rfl⟩ := intAt hy
            obtain ⟨u0, u1⟩ := zr u (List.mem_of_getElem? hu)
            rw [getD_of hu] at q1
            have hm2 : m[u.toNat]? = some m[u.toNat] := List.getElem?_eq_getElem (by omega)
            rw [getD_of hm2] at q1
            walk_at "st"
            refine Rd.ixL (SqL.of (e8 _ _ (e7 _ _ h3))) (at_of (j := u.toNat) (by omega) (map_get_int hm2)) ?_
            exact q1 _ (Same.refl _)
          · have hc : H8 rp = some (.lst ((comp m z).map V.int)) := by
              rw [h8, List.length_map, map_in]
              congr 3
              refine List.ext_getElem? fun n => ?_
              unfold comp
              rw [List.getElem?_map, List.getElem?_map]
              by_cases q : n < z.length
              · rw [List.getElem?_range q, List.getElem?_eq_getElem q]
                simp only [Option.map_some]
                rw [getD_of (List.getElem?_eq_getElem q)]
              · rw [List.getElem?_eq_none (by simp; omega), List.getElem?_eq_none (by omega)]; rfl
            have hF8 := e8 _ _ hF
            have rows8 := rows.sameL e8
            walk_at "st"
            refine notInLL hc hF8 rows8 ?_
            walk_at "st"
            have rpn5 := Same.free e7 hrp
            have stay : ∀ (fs3 : List (List Int)), (∀ j m, j < x → ms[j]? = some m → comp m z ∈ fs3) → comp m z ∈ fs3 → ∀ j m', j < x + 1 → ms[j]? = some m' → comp m' z ∈ fs3 := by
              intro fs3 k1 k2 j m' hj hm'
              by_cases q : j < x
              · exact k1 j m' q hm'
              · rw [show j = x by omega, h2] at hm'
                cases hm'
                exact k2
            refine Rd.ite_n (fun no => ?_) (fun yes => ?_)
            · walk_at "st"
              refine Rd.tyL hF8 ?_
              walk_at "st"
              refine Rd.app hF8 (by rw [List.length_map, rows.len]; exact line_of (by omega)) ?_
              walk_at "st"
              have nrf : rp ≠ fo := fun q => by rw [q, hF] at hrp; cases hrp
              have rnf : rp ∉ fa := fun hm => by
                obtain ⟨j, hj⟩ := List.getElem?_of_mem hm
                obtain ⟨aj, rj, j1, j2, j3⟩ := rows.get (i := j) (by rw [← rows.len]; exact (List.getElem?_eq_some_iff.mp hj).1)
                rw [hj] at j1
                cases j1
                unfold LstN at j3
                rw [hrp] at j3
                cases j3
              refine ⟨_, _, fa ++ [rp], fs ++ more ++ [comp m z], rfl, Rd.same_mut (e7.trans e8) hfo5, by rw [upd_same, List.map_append]; rfl, ⟨by rw [List.length_append, List.length_append (as := fs ++ more), rows.len]; rfl, fun j a r j1 j2 => ?_⟩, fun a ha => ?_,
                List.nodup_append.mpr ⟨nd, by simp, fun u hu y hy => by rw [List.mem_singleton.mp hy]; intro q; exact rnf (q ▸ hu)⟩, G.add p4s mm zm2 no, ⟨more ++ [comp m z], by rw [List.append_assoc]⟩, stay _ (fun j m' hj hm' => List.mem_append_left _ (cl2 j m' hj hm')) (List.mem_append_right _ (List.mem_singleton.mpr rfl))⟩
              · by_cases q : j < fa.length
                · rw [List.getElem?_append_left q] at j1
                  rw [List.getElem?_append_left (by rw [← rows.len]; exact q)] at j2
                  have j3 := rows8.row j a r j1 j2
                  unfold LstN at j3 ⊢
                  rw [upd_ne (new a (List.mem_of_getElem? j1)).2]
                  exact j3
                · have lu := (List.getElem?_eq_some_iff.mp j1).1
                  rw [List.length_append, List.length_singleton] at lu
                  have ej : j = fa.length := by omega
                  subst ej
                  rw [List.getElem?_append_right (Nat.le_refl _), Nat.sub_self] at j1
                  rw [rows.len, List.getElem?_append_right (Nat.le_refl _), Nat.sub_self] at j2
                  cases j1
                  cases j2
                  unfold LstN
                  rw [upd_ne nrf]
                  exact hc
              · rcases List.mem_append.mp ha with q | q
                · exact new a q
                · rw [List.mem_singleton.mp q]
                  exact ⟨rpn5, nrf⟩
            · walk_at "st"
              exact ⟨_, _, fa, fs ++ more, rfl, e7.trans e8, hF8, rows8, new, nd, G, ⟨more, rfl⟩, stay _ cl2 yes⟩
        · rintro σ H7 ⟨v4, v8, fa, fs2, rfl, e7, hF, rows, new, nd, G, ⟨more, rfl⟩, cl2⟩
          walk_at "st"
          refine ⟨_, _, _, fa, fs ++ more, rfl, e7, hF, rows, new, nd, G, fun j y hj hy m hm => ?_⟩
          by_cases q : j < i
          · rw [List.getElem?_append_left (by omega)] at hy
            exact List.mem_append_left _ (cl j y q hy m hm)
          · rw [show j = i by omega, List.getElem?_append_left hif, hz] at hy
            cases hy
            obtain ⟨x, hx, rfl⟩ := List.getElem_of_mem hm
            exact cl2 x _ (by rw [List.length_map, rows5.len]; exact hx) (List.getElem?_eq_getElem hx)
      · walk_at "st"
        refine ⟨_, _, _, fa, fs, rfl, e6, hF, rows, new, nd, G, fun j y hj hy m hm => ?_⟩
        by_cases q : j < i
        · exact cl j y q hy m hm
        · have := (List.getElem?_eq_some_iff.mp hy).1
          omega
    · rintro σ H6 ⟨v4, v7, v8, fa, fs, rfl, e6, hF, rows, new, nd, G, cl⟩
      have few := G.few
      have closed := G.closed p4s fun z hz m hm => by
        obtain ⟨j, hj, rfl⟩ := List.getElem_of_mem hz
        exact cl j _ (by show j < (24 : Int).toNat; have : (24 : Int).toNat = 24 := rfl; omega) (List.getElem?_eq_getElem hj) m hm
      have kp : ∀ i a, fa[i]? = some a → fs.getD (fa.idxOf a) [] = fs.getD i [] := fun i a hi => by
        obtain ⟨h1, h2⟩ := List.getElem?_eq_some_iff.mp hi
        rw [← h2, nd.idxOf_getElem i h1]
      have kat : ∀ a ∈ fa, H6 a = some (.lst ((fs.getD (fa.idxOf a) []).map V.int)) := fun a ha => by
        obtain ⟨i, hi⟩ := List.getElem?_of_mem ha
        obtain ⟨a', r, h1, h2, h3⟩ := rows.get (i := i) (by rw [← rows.len]; exact (List.getElem?_eq_some_iff.mp hi).1)
        rw [hi] at h1
        cases h1
        rw [kp i a hi, getD_of h2]
        exact h3
      have kall : fa.map (fun a => fs.getD (fa.idxOf a) []) = fs := by
        refine List.ext_getElem? fun i => ?_
        rw [List.getElem?_map]
        by_cases q : i < fa.length
        · have h1 : fa[i]? = some fa[i] := List.getElem?_eq_getElem q
          have h2 : fs[i]? = some (fs[i]'(by rw [← rows.len]; exact q)) := List.getElem?_eq_getElem _
          rw [h1, Option.map_some, kp i _ h1, getD_of h2, h2]
        · rw [List.getElem?_eq_none (by omega), List.getElem?_eq_none (by rw [← rows.len]; omega)]; rfl
      walk_at "st"
      refine ⟨fo, fa, fun a => fs.getD (fa.idxOf a) [], rfl, SqL.of hF, kat, fun bs fo2 hperm hsort hfo2 => ?_⟩
      have gp : (bs.map fun a => fs.getD (fa.idxOf a) []).Perm fs := by
        have := hperm.map fun a => fs.getD (fa.idxOf a) []
        rw [kall] at this
        exact this
      have hasc : (bs.map fun a => fs.getD (fa.idxOf a) []).Pairwise (fun x y => Rs.ltL y x = false) := List.pairwise_map.mpr hsort
      have rows7 : Rows LstN (upd H6 fo2 (.lst (bs.map V.ref))) bs (bs.map fun a => fs.getD (fa.idxOf a) []) := ⟨by rw [List.length_map], fun i a r h1 h2 => by
        rw [List.getElem?_map, h1] at h2
        cases h2
        have h3 := kat a (hperm.mem_iff.mp (List.mem_of_getElem? h1))
        unfold LstN
        rw [upd_ne (ne_of_none h3 hfo2)]
        exact h3⟩
      generalize bs.map (fun a => fs.getD (fa.idxOf a) []) = gs at gp hasc rows7
      have O : PermOk gs := ⟨gp.nodup_iff.mpr G.nd, fun z h => G.p4 z (gp.mem_iff.mp h), gp.mem_iff.mpr G.one, fun q hq p hp => gp.mem_iff.mpr (closed q (gp.mem_iff.mp hq) p (gp.mem_iff.mp hp)), by rw [gp.length_eq]; exact few, hasc⟩
      have e7 : Same H5 (upd H6 fo2 (.lst (bs.map V.ref))) := Rd.same_add e6 hfo2
      have hF7 : (upd H6 fo2 (.lst (bs.map V.ref))) fo2 = some (.lst (bs.map V.ref)) := upd_same
      generalize upd H6 fo2 (.lst (bs.map V.ref)) = H7 at e7 hF7 rows7
      have hb7 := hb5.same e7
      have eb7 := butSame e5 e7
      have few2 := O.le
      walk_at "st"
      refine ⟨Nat.zero_le _, fun tb htb => ?_⟩
      have tb0 := butFree eb7 (hb7.ne htb).symm htb
      walk_at "st"
      refine Rd.itl' (SqL.of ((Rd.same_mk htb) _ _ hF7)) ?_
      obtain ⟨psq, pl⟩ := O.sq
      refine for_list (K := K) (a := fo2) (xs := bs.map V.ref) (fun i σ H' => ∃ (v11 : Option V) (ts : List Addr), σ = [some (.ref b), some (.ref mk), v2, v3, v4, v5, some (.ref fo2), v7, v8, none, some (.ref tb), v11, none] ∧ Same H7 H' ∧ H' tb = some (.lst (ts.map V.ref)) ∧ ts.length = i ∧
          (∀ (j : Nat) (a : Addr), ts[j]? = some a → H' a = some (.lst (((permT gs).getD j []).map V.int)) ∧ H7 a = none ∧ a ≠ tb) ∧ ts.Nodup)
        ⟨none, [], rfl, Rd.same_mk htb, upd_same, rfl, fun j a h => by simp at h, List.nodup_nil⟩ (fun i σ H' _ ⟨_, _, _, e, _⟩ => SqL.of (e _ _ hF7)) ?_ ?_
      · rintro i y σ H8 hy ⟨v11, ts, rfl, e8, hTb, lt, hts, ndt⟩
        obtain ⟨ap, p, rfl, h1, h2, h3⟩ := rows7.at hy
        have pm := List.mem_of_getElem? h2
        obtain ⟨p4, pr⟩ := p4_rng p (O.p4 p pm)
        have hi : i < gs.length := (List.getElem?_eq_some_iff.mp h2).1
        walk_at "st"
        refine Rd.tyL hTb ?_
        walk_at "st"
        refine Rd.itl' (SqL.of (e8 _ _ hF7)) ?_
        refine Rd.lcMap (fun n => .int ((gs.idxOf (comp (gs.getD n []) p) : Nat) : Int)) (Rd.src_list (SqL.of (e8 _ _ hF7))) (by rw [List.length_map, rows7.len]; omega) (by intro _; rfl) (fun n y H9 Q1 hy2 e9 q1 => ?_) (fun rp H9 hrp e9 h9 => ?_)
        · obtain ⟨aq, q, rfl, g1, g2, g3⟩ := rows7.at hy2
          have qm := List.mem_of_getElem? g2
          obtain ⟨q4, qr⟩ := p4_rng q (O.p4 q qm)
          rw [getD_of g2] at q1
          have e10 := e8.trans e9
          walk_at "st"
          refine Rd.tyL (e10 _ _ hF7) ?_
          walk_at "st"
          refine Rd.itl' (SqL.of (e10 _ _ h3)) ?_
          refine Rd.lcMap (fun n => .int (q.getD (p.getD n 0).toNat 0)) (Rd.src_list (SqL.of (e10 _ _ h3))) (by rw [List.length_map]; omega) (by intro _; rfl) (fun n y H10 Q2 hy3 e11 q2 => ?_) (fun cp H10 hcp e11 h10 => ?_)
          · obtain ⟨u, hu, rfl⟩ := intAt hy3
            obtain ⟨u0, u1⟩ := pr u (List.mem_of_getElem? hu)
            rw [getD_of hu] at q2
            have hm2 : q[u.toNat]? = some q[u.toNat] := List.getElem?_eq_getElem (by omega)
            rw [getD_of hm2] at q2
            walk_at "st"
            refine Rd.ixL (SqL.of (e11 _ _ (e10 _ _ g3))) (at_of (j := u.toNat) (by omega) (map_get_int hm2)) ?_
            exact q2 _ (Same.refl _)
          · have hc : H10 cp = some (.lst ((comp q p).map V.int)) := by
              rw [h10, List.length_map, map_in]
              congr 3
              refine List.ext_getElem? fun n => ?_
              unfold comp
              rw [List.getElem?_map, List.getElem?_map]
              by_cases z : n < p.length
              · rw [List.getElem?_range z, List.getElem?_eq_getElem z]
                simp only [Option.map_some]
                rw [getD_of (List.getElem?_eq_getElem z)]
              · rw [List.getElem?_eq_none (by simp; omega), List.getElem?_eq_none (by omega)]; rfl
            walk_at "st"
            refine indexLL hc (e11 _ _ (e10 _ _ hF7)) (rows7.sameL (e10.trans e11)) (O.cl q qm p pm) ?_
            exact q1 _ e11
        · have hTb9 := e9 _ _ hTb
          walk_at "st"
          refine Rd.app hTb9 (by rw [List.length_map]; exact line_of (by omega)) ?_
          walk_at "st"
          have rn : rp ∉ ts := fun hm => by
            obtain ⟨j, hj⟩ := List.getElem?_of_mem hm
            rw [(hts j rp hj).1] at hrp
            cases hrp
          have rtb : rp ≠ tb := fun z => by rw [z, hTb] at hrp; cases hrp
          have row9 : H9 rp = some (.lst (((permT gs).getD i []).map V.int)) := by
            have h5 : (permT gs).getD i [] = gs.map fun q => ((gs.idxOf (comp q p) : Nat) : Int) := getD_of (by unfold permT; rw [List.getElem?_map, h2]; rfl)
            rw [h9, h5, List.length_map, rows7.len, map_in]
            congr 3
            refine List.ext_getElem? fun n => ?_
            rw [List.getElem?_map, List.getElem?_map]
            by_cases z : n < gs.length
            · rw [List.getElem?_range z, List.getElem?_eq_getElem z]
              simp only [Option.map_some]
              rw [getD_of (List.getElem?_eq_getElem z)]
            · rw [List.getElem?_eq_none (by simp; omega), List.getElem?_eq_none (by omega)]; rfl
          refine ⟨_, ts ++ [rp], rfl, Rd.same_mut (e8.trans e9) htb, by rw [upd_same, List.map_append]; rfl, by rw [List.length_append, lt]; rfl, fun j a ha => ?_, List.nodup_append.mpr ⟨ndt, by simp, fun x hx y hy => by rw [List.mem_singleton.mp hy]; intro z; exact rn (z ▸ hx)⟩⟩
          by_cases c : j < ts.length
          · rw [List.getElem?_append_left c] at ha
            obtain ⟨k1, k2, k3⟩ := hts j a ha
            exact ⟨by rw [upd_ne k3]; exact e9 _ _ k1, k2, k3⟩
          · have lu := (List.getElem?_eq_some_iff.mp ha).1
            rw [List.length_append, List.length_singleton] at lu
            have ej : j = ts.length := by omega
            subst ej
            rw [List.getElem?_append_right (Nat.le_refl _), Nat.sub_self] at ha
            cases ha
            rw [lt]
            exact ⟨by rw [upd_ne rtb]; exact row9, Same.free e8 hrp, rtb⟩
      · rintro σ H8 ⟨v11, ts, rfl, e8, hTb, lt, hts, ndt⟩
        walk_at "st"
        refine kQ gs tb H8 O (hb7.same e8) (butSame eb7 e8) ⟨tb0, ts, hTb, ⟨by rw [lt, List.length_map, rows7.len, pl], fun j a r h1 h2 => ?_⟩, fun a ha => ?_, ndt⟩
        · obtain ⟨h3, _, _⟩ := hts j a h1
          rw [getD_of h2] at h3
          exact h3
        · obtain ⟨j, hj⟩ := List.getElem?_of_mem ha
          obtain ⟨h3, h4, h5⟩ := hts j a hj
          exact ⟨butFree eb7 (hb7.ne h4).symm h4, h5⟩
end
end K10

set_option Elab.async false
set_option linter.all false
set_option maxRecDepth 100000
set_option maxHeartbeats 4000000
namespace K10
open PySem L2 Rd GT
local macro_rules | `(tactic| walk_at "st1") => `(tactic| with_reducible first
  | refine' Rd.seq ?_ | refine' Rd.nxt ?_ | refine' Rd.asg ?_ | refine' Rd.nm ?_ | refine' Rd.con ?_ | refine' Rd.op ?_ | refine' Rd.i0 ?_ | refine' Rd.un ?_ | refine' Rd.u0 ?_
  | refine' Rd.eqI ?_ | refine' Rd.neI ?_ | refine' Rd.eqB ?_ | refine' Rd.tst ?_ | refine' Rd.tB_ ?_ | refine' Rd.exb ?_ | refine' Rd.ifS ?_ | refine' Rd.ret ?_ | refine' Rd.retN ?_ | refine' Rd.drop ?_
  | refine' Rd.nil ?_ | refine' Rd.cons ?_ | refine' Rd.cb ?_ | refine' Rd.call ?_ | refine' Rd.callN ?_ | refine' Rd.andT ?_ | refine' Rd.orT ?_ | refine' Rd.notT ?_ | refine' Rd.andV ?_ | refine' Rd.orV ?_ | refine' Rd.notV ?_ | refine' Rd.chain ?_
  | refine' Rd.lst ?_ | refine' Rd.tup ?_ | refine' Rd.for_ ?_ | refine' Rd.rng1 ?_ | refine' Rd.rng2 ?_ | refine' Rd.itl ?_ | refine' Rd.itt ?_ | refine' Rd.sub ?_
  | refine' Rd.lrg ?_ | refine' Rd.rg1 ?_ | refine' Rd.rg2 ?_ | refine' Rd.exi ?_ | refine' Rd.exi2 ?_ | refine' Rd.int1 ?_ | refine' Rd.ex1 ?_ | refine' Rd.ex2 ?_
  | refine' Rd.fld ?_ | refine' Rd.sfld ?_ | refine' Rd.meth ?_ | refine' Rd.make ?_ | refine' Rd.lc ?_ | refine' Rd.bm ?_ | refine' Rd.bm0 ?_ | refine' Rd.bt ?_ | refine' Rd.enT ?_ | refine' Rd.enL ?_)
local macro_rules | `(tactic| walk_at "st") => `(tactic| repeat (first | walk_at "st1" | ((with_reducible refine' Rd.var ?hv ?_); (case hv => rfl))))
local macro_rules | `(tactic| walk_at "sj1") => `(tactic| with_reducible first
  | refine' Rd.seqA ?_ | refine' Rd.seqD ?_ | refine' Rd.seqF ?_ | refine' Rd.seqW ?_ | refine' Rd.nxt ?_ | refine' Rd.asg ?_ | refine' Rd.nm ?_ | refine' Rd.con ?_ | refine' Rd.op ?_ | refine' Rd.i0 ?_ | refine' Rd.un ?_ | refine' Rd.u0 ?_
  | refine' Rd.eqI ?_ | refine' Rd.neI ?_ | refine' Rd.eqB ?_ | refine' Rd.tst ?_ | refine' Rd.tB_ ?_ | refine' Rd.exb ?_ | refine' Rd.ifS ?_ | refine' Rd.ret ?_ | refine' Rd.retN ?_ | refine' Rd.drop ?_
  | refine' Rd.nil ?_ | refine' Rd.cons ?_ | refine' Rd.cb ?_ | refine' Rd.call ?_ | refine' Rd.callN ?_ | refine' Rd.andT ?_ | refine' Rd.orT ?_ | refine' Rd.notT ?_ | refine' Rd.andV ?_ | refine' Rd.orV ?_ | refine' Rd.notV ?_ | refine' Rd.chain ?_
  | refine' Rd.lst ?_ | refine' Rd.tup ?_ | refine' Rd.for_ ?_ | refine' Rd.rng1 ?_ | refine' Rd.rng2 ?_ | refine' Rd.itl ?_ | refine' Rd.itt ?_ | refine' Rd.sub ?_
  | refine' Rd.lrg ?_ | refine' Rd.rg1 ?_ | refine' Rd.rg2 ?_ | refine' Rd.exi ?_ | refine' Rd.exi2 ?_ | refine' Rd.int1 ?_ | refine' Rd.ex1 ?_ | refine' Rd.ex2 ?_
  | refine' Rd.fld ?_ | refine' Rd.sfld ?_ | refine' Rd.meth ?_ | refine' Rd.make ?_ | refine' Rd.lc ?_ | refine' Rd.bm ?_ | refine' Rd.bm0 ?_ | refine' Rd.bt ?_ | refine' Rd.enT ?_ | refine' Rd.enL ?_)
local macro_rules | `(tactic| walk_at "sj") => `(tactic| repeat (first | walk_at "sj1" | ((with_reducible refine' Rd.var ?hv ?_); (case hv => rfl))))
def sp_ren : Sp := fun vs H Q _ => ∃ (b p : Addr) (as : List Addr) (t : List (List Int)), vs = [.ref b, .ref p] ∧ Bag H b ∧ H p = some (.lst (as.map V.ref)) ∧ p ≠ b ∧ Rows LstN H as t ∧ (∀ a ∈ as, a ≠ b) ∧ Sq t ∧ t.length ≤ 33 ∧
  ∀ (ns : List Int) (u : List (List Int)) (q : Addr) (H' : Hp), Ren t ns u → Bag H' b → But b H H' → TabN H H' q u → Q (.ref q) H'
theorem flat_rep (k : Int) : ∀ n : Nat, (List.replicate n [V.int k]).flatten = (List.replicate n k).map V.int
  | 0 => rfl
  | m + 1 => by rw [List.replicate_succ, List.replicate_succ, List.flatten_cons, flat_rep k m]; rfl
section
variable {P : Program} {w : World} {K : PySem.W.Frag} {mg : Str → Option Value} {base : Heap} {f : Addr} {fd : FuncData}
abbrev s__law_renamed : Stmt := (top 27)
theorem sc__law_renamed : FnScope ["bag", "table", "size", "names", "x", "y", "kept", "result"] ["bag", "table"] (defScope s__law_renamed) := ⟨rfl, rfl, rfl, by decide +kernel, rfl, by decide +kernel, by decide +kernel⟩
theorem ok_ren (F : FnP K "_law_renamed" "_law_renamed" s__law_renamed f fd) (T : Txt K mg) (D__law_take : DOk P w K mg base CX0 "_law_take" 1 ["bag", "size"] sp_take) : FnOk P w K mg base CX0 2 f fd ["bag", "table"] sp_ren := by
  refine F.ok sc__law_renamed (fun vs H Q E h => ?_) (fun cdv A outer s H vs Q E hr h => ?_)
  · obtain ⟨_, _, _, _, rfl, _⟩ := h; rfl
  obtain ⟨b, p, as, t, rfl, hb, hp, npb, R, nab, S, t33, kQ⟩ := h
  refine ⟨_, PSs.nox (pss_cons (ps_set (i := 2) sc__law_renamed.nd rfl (Or.inr rfl) (pe_callB (Rk.len K) rfl T.len PySem.boot_len (pa_cons (pv 1) pa_nil)))
  (pss_cons (ps_set (i := 3) sc__law_renamed.nd rfl (Or.inl rfl) (pe_listRg rfl rfl T.list (prg_1 rfl T.range (pv 2))))
  (pss_cons (ps_for PassesOwn.never rfl (pi_range3 rfl T.range (pa_cons (pe_op op_sub (pv 2) pe_int) (pa_cons pe_int (pa_cons (pe_un un_neg pe_int) pa_nil)))) (pg_name (i := 4) sc__law_renamed.nd rfl (Or.inl rfl))
  (pss_cons (ps_set (i := 5) sc__law_renamed.nd rfl (Or.inl rfl) (pe_op op_add pe_int (callX D__law_take (hr.mono (by decide)) (passN) (pa_cons (pv 0) (pa_cons (pv 4) pa_nil)))))
  (pss_cons (ps_set (i := 6) sc__law_renamed.nd rfl (Or.inl rfl) (pe_ix (Rk.ixL K) (pv 3) (pv 4) (fun _ _ => rfl)))
  (pss_cons (ps_asg (pe_ix (Rk.ixL K) (pv 3) (pv 5) (fun _ _ => rfl)) (pg_sub (pv 3) (pv 4) set_list))
  (pss_one (ps_asg (pv 6) (pg_sub (pv 3) (pv 5) set_list)))))))
  (pss_cons (ps_setLc (i := 7) (own := [("x", 4)]) rfl sc__law_renamed.nd rfl rfl (sw_true rfl rfl rfl (by decide +kernel)) (pi_range1 rfl T.range (pa_cons (pv 2) pa_nil)) (blkOk_by (own := [("x", 4)]) (N := ["bag", "table", "size", "names", "x", "y", "kept", "result"]) (sc := defScope s__law_renamed) (by decide +kernel)) (fun _ _ _ _ _ => (pg_name (i := 4) sc__law_renamed.nd rfl (Or.inl rfl))) (fun _ _ _ _ _ => pts_nil) (fun _ _ _ _ _ => (pe_op op_rep (pe_lst (pa_cons pe_int pa_nil)) (pv 2))))
  (pss_cons (ps_for PassesOwn.never rfl (pi_range1 rfl T.range (pa_cons (pv 2) pa_nil)) (pg_name (i := 4) sc__law_renamed.nd rfl (Or.inl rfl))
  (pss_one (ps_for PassesOwn.never rfl (pi_range1 rfl T.range (pa_cons (pv 2) pa_nil)) (pg_name (i := 5) sc__law_renamed.nd rfl (Or.inl rfl))
  (pss_one (ps_asg (pe_ix (Rk.ixL K) (pv 3) (pe_ix (Rk.ixL K) (pe_ix (Rk.ixL K) (pv 1) (pv 4) (fun _ _ => rfl)) (pv 5) (fun _ _ => rfl)) (fun _ _ => rfl)) (pg_sub (pe_ix (Rk.ixL K) (pv 7) (pe_ix (Rk.ixL K) (pv 3) (pv 4) (fun _ _ => rfl)) (fun _ _ => rfl)) (pe_ix (Rk.ixL K) (pv 3) (pv 5) (fun _ _ => rfl)) set_list))))))
  (pss_one (ps_ret (pv 7)))))))), ?_⟩
  have tp := S.pos
  have keepR : ∀ {H'}, But b H H' → Rows LstN H' as t := fun e => R.map fun a xs ha h => e a _ (nab a ha) h
  walk_at "st"
  refine Rd.len1 (.inl (SqL.of hp)) ?_
  walk_at "st"
  rw [List.length_map, R.len]
  generalize hn : t.length = n at t33 tp
  refine ⟨⟨by decide, by decide, by omega, by omega, by omega⟩, fun nl hnl => ?_⟩
  rw [rgV_eq]
  walk_at "st"
  refine Rd.rng3 ?_
  walk_at "st"
  refine ⟨(n : Int) - 1, 1, -1, ((n : Int) - 1 - 1).toNat, rfl, RgC.neg (by omega) (by omega) (by decide) (by decide), ?_⟩
  have nbn := hb.ne hnl
  refine for_rangeC (fun i σ H' => ∃ (v4 v5 v6 : Option V) (ns : List Int), σ = [some (.ref b), some (.ref p), some (.int (n : Nat)), some (.ref nl), v4, v5, v6, none] ∧ Bag H' b ∧ But b H H' ∧ H' nl = some (.lst (ns.map V.int)) ∧ NmOk n ns)
    ⟨none, none, none, _, rfl, hb.put nbn, butAdd (Rd.But.refl _ _) hnl, upd_same, NmOk.start n⟩ ?_ ?_
  · rintro i σ H5 hi ⟨v4, v5, v6, ns, rfl, hb5, e5, hN, N⟩
    obtain ⟨x, hx⟩ : ∃ x : Nat, (n : Int) - 1 + (i : Nat) * (-1) = (x : Int) := ⟨n - 1 - i, by omega⟩
    rw [hx]
    have x1 : 2 ≤ x := by omega
    have x2 : x < n := by omega
    walk_at "st"
    refine ⟨b, x, rfl, by omega, by omega, hb5, fun v H6 v0 v1 hb6 e6 => ?_⟩
    obtain ⟨y, hy⟩ : ∃ y : Nat, 1 + v = (y : Int) := ⟨(1 + v).toNat, by omega⟩
    have y1 : 1 ≤ y := by omega
    have y2 : y < n := by omega
    have hN6 := e6 nl _ nbn.symm hN
    obtain ⟨ax, _⟩ := N.at_ x2
    obtain ⟨ay, _⟩ := N.at_ y2
    walk_at "st"
    rw [hy]
    refine Rd.ixL (SqL.of hN6) (at_of (j := x) rfl (map_get_int ax)) ?_
    walk_at "st"
    refine Rd.ixL (SqL.of hN6) (at_of (j := y) rfl (map_get_int ay)) ?_
    walk_at "st"
    refine Rd.setL (j := x) hN6 (ixN_of rfl (by rw [List.length_map, N.len]; exact x2)) ?_
    walk_at "st"
    refine Rd.setL (j := y) upd_same (ixN_of rfl (by rw [List.length_set, List.length_map, N.len]; exact y2)) ?_
    walk_at "st"
    refine ⟨_, _, _, (ns.set x (nm ns y : Int)).set y (nm ns x : Int), rfl, (hb6.put nbn).put nbn, butMut (butMut (e5.trans e6) hnl) hnl, by rw [upd_same, List.map_set, List.map_set], N.swap ax ay (by omega) y1⟩
  · rintro σ H5 ⟨v4, v5, v6, ns, rfl, hb5, e5, hN, N⟩
    walk_at "st"
    refine ⟨by omega, by omega, ?_⟩
    refine Rd.lcNew (fun _ o => o = .lst ((List.replicate n (0 : Int)).map V.int)) (Rd.src_rng _ _ _) (by rw [Rd.rgL_len]; omega) (by intro _; rfl) (fun i y H6 Q1 hy e6 q1 => ?_) (fun rl ra H6 hrl e6 h6 lra hra nd => ?_)
    · walk_at "st"
      refine ⟨(by decide : 1 ≤ sizeLine), fun l0 hl0 => ?_⟩
      walk_at "st"
      refine ⟨l0, (n : Int), _, rfl, rfl, upd_same, by omega, by omega, by show 1 * (n : Int).toNat ≤ sizeLine; exact Nat.le_of_lt (line_of (by omega)), fun kn hkn => ?_⟩
      refine q1 kn _ _ (Same.free (Rd.same_mk hl0) hkn) ((Rd.same_mk hl0).trans (Rd.same_mk hkn)) upd_same ?_
      rw [Int.toNat_natCast, flat_rep]
    · rw [Rd.rgL_len] at lra
      have lra2 : ra.length = n := by omega
      have hra5 : ∀ a ∈ ra, H5 a = none ∧ a ≠ rl := fun a ha => by
        obtain ⟨i, hi⟩ := List.getElem?_of_mem ha
        exact (hra i a hi).2
      have rows0 : Rows LstN H6 ra (List.replicate n (List.replicate n (0 : Int))) := ⟨by rw [lra2, List.length_replicate], fun i a r h1 h2 => by
        obtain ⟨_, h3, rfl⟩ := (hra i a h1).1
        rw [List.getElem?_replicate] at h2
        split at h2
        · cases h2
          exact h3
        · cases h2⟩
      have hb6 := hb5.same e6
      walk_at "st"
      refine ⟨by omega, by omega, ?_⟩
      refine for_range (fun i σ H' => ∃ (v4 v5 : Option V) (u : List (List Int)), σ = [some (.ref b), some (.ref p), some (.int (n : Nat)), some (.ref nl), v4, v5, v6, some (.ref rl)] ∧ Same H5 H' ∧ H' rl = some (.lst (ra.map V.ref)) ∧ Rows LstN H' ra u ∧ (∀ r ∈ u, r.length = n) ∧ ∀ x y, x < i → y < n → at2 u (nm ns x) (nm ns y) = (nm ns (mul t x y) : Int))
        ⟨v4, v5, _, rfl, e6, h6, rows0, fun r hr => by rw [List.eq_of_mem_replicate hr, List.length_replicate], fun x y h => by omega⟩ ?_ ?_
      · rintro i σ H7 hi ⟨v4, v5, u, rfl, e7, hL, rows, shp, done⟩
        rw [Int.zero_add]
        walk_at "st"
        refine ⟨by omega, by omega, ?_⟩
        refine for_range (fun j σ H' => ∃ (v5 : Option V) (u : List (List Int)), σ = [some (.ref b), some (.ref p), some (.int (n : Nat)), some (.ref nl), some (.int (i : Nat)), v5, v6, some (.ref rl)] ∧ Same H5 H' ∧ H' rl = some (.lst (ra.map V.ref)) ∧ Rows LstN H' ra u ∧ (∀ r ∈ u, r.length = n) ∧ ∀ x y, (x < i ∧ y < n) ∨ (x = i ∧ y < j) → at2 u (nm ns x) (nm ns y) = (nm ns (mul t x y) : Int))
          ⟨v5, u, rfl, e7, hL, rows, shp, fun x y h => by rcases h with h | h; exact done x y h.1 h.2; omega⟩ ?_ ?_
        · rintro j σ H8 hj ⟨v5, u, rfl, e8, hL, rows, shp, done⟩
          rw [Int.zero_add]
          have hi2 : i < n := by omega
          have hj2 : j < n := by omega
          obtain ⟨at_i, X2⟩ := N.at_ hi2
          obtain ⟨at_j, Y2⟩ := N.at_ hj2
          have ml : mul t i j < n := by rw [← hn]; exact S.mul_lt (by omega) (by omega)
          obtain ⟨at_m, _⟩ := N.at_ ml
          have e9 := butSame e5 e8
          have hN8 := e8 _ _ hN
          obtain ⟨ai, ri, g1, g2, g3⟩ := (keepR e9).get (i := i) (by omega)
          obtain ⟨_, _, r', w1, w2⟩ := S.at (x := i) (y := j) (by omega) (by omega)
          rw [g2] at w1
          cases w1
          rw [S.mul_eq (by omega) (by omega)] at w2
          have lu : u.length = n := by rw [← rows.len, lra2]
          obtain ⟨aX, rX, k1, k2, k3⟩ := rows.get (i := nm ns i) (by rw [lu]; exact X2)
          have lX := shp rX (List.mem_of_getElem? k2)
          walk_at "st"
          refine Rd.ixL (SqL.of (e9 p _ npb hp)) (at_of (j := i) (v := .ref ai) rfl (by rw [List.getElem?_map, g1]; rfl)) ?_
          walk_at "st"
          refine Rd.ixL (SqL.of g3) (at_of (j := j) rfl (map_get_int w2)) ?_
          refine Rd.ixL (SqL.of hN8) (at_of (j := mul t i j) rfl (map_get_int at_m)) ?_
          walk_at "st"
          refine Rd.ixL (SqL.of hN8) (at_of (j := i) rfl (map_get_int at_i)) ?_
          refine Rd.ixL (SqL.of hL) (at_of (j := nm ns i) (v := .ref aX) rfl (by rw [List.getElem?_map, k1]; rfl)) ?_
          walk_at "st"
          refine Rd.ixL (SqL.of hN8) (at_of (j := j) rfl (map_get_int at_j)) ?_
          refine Rd.setL (j := nm ns j) k3 (ixN_of rfl (by rw [List.length_map, lX]; exact Y2)) ?_
          obtain ⟨f1, f2⟩ := hra5 aX (List.mem_of_getElem? k1)
          rw [← List.map_set]
          walk_at "st"
          refine ⟨_, u.set (nm ns i) (rX.set (nm ns j) (nm ns (mul t i j) : Int)), rfl, Rd.same_mut e8 f1, by rw [upd_ne f2.symm]; exact hL, rows.put nd k1, fun r hr => ?_, fun x y hxy => ?_⟩
          · rcases List.mem_or_eq_of_mem_set hr with h | h
            · exact shp r h
            · rw [h, List.length_set]; exact lX
          · rw [at2_set k2 (by rw [lX]; exact Y2)]
            by_cases c : x = i ∧ y = j
            · rw [if_pos ⟨by rw [c.1], by rw [c.2]⟩, c.1, c.2]
            · rw [if_neg (fun z => c ⟨N.inj (by omega) (by omega) z.1, N.inj (by omega) (by omega) z.2⟩)]
              exact done x y (by omega)
        · rintro σ H8 ⟨v5, u, rfl, e8, hL, rows, shp, done⟩
          walk_at "st"
          exact ⟨_, _, u, rfl, e8, hL, rows, shp, fun x y hx hy => done x y (by omega)⟩
      · rintro σ H7 ⟨v4, v5, u, rfl, e7, hL, rows, shp, done⟩
        walk_at "st"
        have lu : u.length = n := by rw [← rows.len, lra2]
        refine kQ ns u rl H7 ⟨by rw [hn]; exact N, by rw [lu, hn], fun r hr => by rw [hn]; exact shp r hr, fun x y hx hy => done x y (by omega) (by omega)⟩ (hb5.same e7) (butSame e5 e7) ⟨butFree e5 (hb5.ne hrl).symm hrl, ra, hL, rows, fun a ha => ⟨butFree e5 (hb5.ne (hra5 a ha).1).symm (hra5 a ha).1, (hra5 a ha).2⟩, nd⟩
end
end K10

set_option Elab.async false
set_option linter.all false
set_option maxRecDepth 100000
set_option maxHeartbeats 4000000
namespace K10
open PySem L2 Rd GT
local macro_rules | `(tactic| walk_at "st1") => `(tactic| with_reducible first
  | refine' Rd.seq ?_ | refine' Rd.nxt ?_ | refine' Rd.asg ?_ | refine' Rd.nm ?_ | refine' Rd.con ?_ | refine' Rd.op ?_ | refine' Rd.i0 ?_ | refine' Rd.un ?_ | refine' Rd.u0 ?_
  | refine' Rd.eqI ?_ | refine' Rd.neI ?_ | refine' Rd.eqB ?_ | refine' Rd.tst ?_ | refine' Rd.tB_ ?_ | refine' Rd.exb ?_ | refine' Rd.ifS ?_ | refine' Rd.ret ?_ | refine' Rd.retN ?_ | refine' Rd.drop ?_
  | refine' Rd.nil ?_ | refine' Rd.cons ?_ | refine' Rd.cb ?_ | refine' Rd.call ?_ | refine' Rd.callN ?_ | refine' Rd.andT ?_ | refine' Rd.orT ?_ | refine' Rd.notT ?_ | refine' Rd.andV ?_ | refine' Rd.orV ?_ | refine' Rd.notV ?_ | refine' Rd.chain ?_
  | refine' Rd.lst ?_ | refine' Rd.tup ?_ | refine' Rd.for_ ?_ | refine' Rd.rng1 ?_ | refine' Rd.rng2 ?_ | refine' Rd.itl ?_ | refine' Rd.itt ?_ | refine' Rd.sub ?_
  | refine' Rd.lrg ?_ | refine' Rd.rg1 ?_ | refine' Rd.rg2 ?_ | refine' Rd.exi ?_ | refine' Rd.exi2 ?_ | refine' Rd.int1 ?_ | refine' Rd.ex1 ?_ | refine' Rd.ex2 ?_
  | refine' Rd.fld ?_ | refine' Rd.sfld ?_ | refine' Rd.meth ?_ | refine' Rd.make ?_ | refine' Rd.lc ?_ | refine' Rd.bm ?_ | refine' Rd.bm0 ?_ | refine' Rd.bt ?_ | refine' Rd.enT ?_ | refine' Rd.enL ?_)
local macro_rules | `(tactic| walk_at "st") => `(tactic| repeat (first | walk_at "st1" | ((with_reducible refine' Rd.var ?hv ?_); (case hv => rfl))))
local macro_rules | `(tactic| walk_at "sj1") => `(tactic| with_reducible first
  | refine' Rd.seqA ?_ | refine' Rd.seqD ?_ | refine' Rd.seqF ?_ | refine' Rd.seqW ?_ | refine' Rd.nxt ?_ | refine' Rd.asg ?_ | refine' Rd.nm ?_ | refine' Rd.con ?_ | refine' Rd.op ?_ | refine' Rd.i0 ?_ | refine' Rd.un ?_ | refine' Rd.u0 ?_
  | refine' Rd.eqI ?_ | refine' Rd.neI ?_ | refine' Rd.eqB ?_ | refine' Rd.tst ?_ | refine' Rd.tB_ ?_ | refine' Rd.exb ?_ | refine' Rd.ifS ?_ | refine' Rd.ret ?_ | refine' Rd.retN ?_ | refine' Rd.drop ?_
  | refine' Rd.nil ?_ | refine' Rd.cons ?_ | refine' Rd.cb ?_ | refine' Rd.call ?_ | refine' Rd.callN ?_ | refine' Rd.andT ?_ | refine' Rd.orT ?_ | refine' Rd.notT ?_ | refine' Rd.andV ?_ | refine' Rd.orV ?_ | refine' Rd.notV ?_ | refine' Rd.chain ?_
  | refine' Rd.lst ?_ | refine' Rd.tup ?_ | refine' Rd.for_ ?_ | refine' Rd.rng1 ?_ | refine' Rd.rng2 ?_ | refine' Rd.itl ?_ | refine' Rd.itt ?_ | refine' Rd.sub ?_
  | refine' Rd.lrg ?_ | refine' Rd.rg1 ?_ | refine' Rd.rg2 ?_ | refine' Rd.exi ?_ | refine' Rd.exi2 ?_ | refine' Rd.int1 ?_ | refine' Rd.ex1 ?_ | refine' Rd.ex2 ?_
  | refine' Rd.fld ?_ | refine' Rd.sfld ?_ | refine' Rd.meth ?_ | refine' Rd.make ?_ | refine' Rd.lc ?_ | refine' Rd.bm ?_ | refine' Rd.bm0 ?_ | refine' Rd.bt ?_ | refine' Rd.enT ?_ | refine' Rd.enL ?_)
local macro_rules | `(tactic| walk_at "sj") => `(tactic| repeat (first | walk_at "sj1" | ((with_reducible refine' Rd.var ?hv ?_); (case hv => rfl))))
/-- what is drawn -/
inductive Drawn : List (List Int) → Prop
  | cyc {n m k r s : Int} : MetaOk n m k r s → Drawn (metaT n m k r s)
  | prm {fs : List (List Int)} : PermOk fs → Drawn (permT fs)
  | ren {t u : List (List Int)} {ns : List Int} : Drawn t → Ren t ns u → Drawn u
theorem Drawn.sq {t : List (List Int)} (D : Drawn t) : Sq t := by
  induction D with
  | cyc M => exact M.sq.1
  | prm O => exact O.sq.1
  | ren _ R ih => exact R.sq ih
theorem TabN.but {H H1 H2 : Hp} {p b : Addr} {t : List (List Int)} (X : TabN H H1 p t) (hb : Bag H b) (e : But b H1 H2) : TabN H H2 p t := by
  obtain ⟨as, h1, h2, h3, h4⟩ := X.ob
  exact ⟨X.fresh, as, e p _ (hb.ne X.fresh).symm h1, h2.map fun a xs ha h => e a _ (hb.ne (h3 a ha).1).symm h, h3, h4⟩
theorem TabN.up {H H0 H1 : Hp} {p b : Addr} {t : List (List Int)} (X : TabN H H1 p t) (hb : Bag H b) (e : But b H0 H) : TabN H0 H1 p t := by
  obtain ⟨as, h1, h2, h3, h4⟩ := X.ob
  exact ⟨butFree e (hb.ne X.fresh).symm X.fresh, as, h1, h2, fun a ha => ⟨butFree e (hb.ne (h3 a ha).1).symm (h3 a ha).1, (h3 a ha).2⟩, h4⟩
def sp_table : Sp := fun vs H Q _ => ∃ (b : Addr) (lim : Int), vs = [.ref b, .int lim] ∧ 1 ≤ lim ∧ lim ≤ 33 ∧ Bag H b ∧ ∀ (t : List (List Int)) (p : Addr) (H' : Hp), Drawn t → (t.length : Int) ≤ lim → Bag H' b → But b H H' → TabN H H' p t → Q (.ref p) H'
section
variable {P : Program} {w : World} {K : PySem.W.Frag} {mg : Str → Option Value} {base : Heap} {f : Addr} {fd : FuncData}
abbrev s__law_table : Stmt := (top 28)
theorem sc__law_table : FnScope ["bag", "limit", "table", "other"] ["bag", "limit"] (defScope s__law_table) := ⟨rfl, rfl, rfl, by decide +kernel, rfl, by decide +kernel, by decide +kernel⟩
theorem ok_table (F : FnP K "_law_table" "_law_table" s__law_table f fd) (T : Txt K mg) (D__law_take : DOk P w K mg base CX0 "_law_take" 1 ["bag", "size"] sp_take) (D__law_metacyclic : DOk P w K mg base CX0 "_law_metacyclic" 2 ["bag", "limit"] sp_meta)
    (D__law_permutations : DOk P w K mg base CX0 "_law_permutations" 2 ["bag"] sp_perm) (D__law_renamed : DOk P w K mg base CX0 "_law_renamed" 2 ["bag", "table"] sp_ren) : FnOk P w K mg base CX0 3 f fd ["bag", "limit"] sp_table := by
  refine F.ok sc__law_table (fun vs H Q E h => ?_) (fun cdv A outer s H vs Q E hr h => ?_)
  · obtain ⟨_, _, rfl, _⟩ := h; rfl
  obtain ⟨b, lim, rfl, l1, l2, hb, kQ⟩ := h
  refine ⟨_, PSs.nox (pss_cons (ps_set (i := 2) sc__law_table.nd rfl (Or.inl rfl) (callX D__law_metacyclic (hr.mono (by decide)) (passN) (pa_cons (pv 0) (pa_cons (pv 1) pa_nil))))
  (pss_cons (ps_if (pt_cmpR op_eq (callX D__law_take (hr.mono (by decide)) (passN) (pa_cons (pv 0) (pa_cons pe_int pa_nil))) pe_int (nomark _))
  (pss_cons (ps_set (i := 3) sc__law_table.nd rfl (Or.inl rfl) (callX D__law_permutations (hr.mono (by decide)) (passN) (pa_cons (pv 0) pa_nil)))
  (pss_one (ps_if (pt_cmpR op_le (pe_callB (Rk.len K) rfl T.len PySem.boot_len (pa_cons (pv 3) pa_nil)) (pv 1) (nomark _))
  (pss_one (ps_set (i := 2) sc__law_table.nd rfl (Or.inl rfl) (pv 3)))
  pss_nil)))
  pss_nil)
  (pss_cons (ps_if (pt_cmpR op_eq (callX D__law_take (hr.mono (by decide)) (passN) (pa_cons (pv 0) (pa_cons pe_int pa_nil))) pe_int (nomark _))
  (pss_one (ps_set (i := 2) sc__law_table.nd rfl (Or.inl rfl) (callX D__law_renamed (hr.mono (by decide)) (passN) (pa_cons (pv 0) (pa_cons (pv 2) pa_nil)))))
  pss_nil)
  (pss_one (ps_ret (pv 2)))))), ?_⟩
  walk_at "sj"
  refine ⟨b, lim, rfl, l1, l2, hb, fun n m k r s p1 H1 M nmk hb1 e1 X1 => ?_⟩
  walk_at "sj"
  with_reducible refine Rd.seqJ (fun σ' H' => ∃ (v3 : Option V) (p : Addr) (t : List (List Int)), σ' = [some (.ref b), some (.int lim), some (.ref p), v3] ∧ Drawn t ∧ (t.length : Int) ≤ lim ∧ Bag H' b ∧ But b H H' ∧ TabN H H' p t) ?_ fun N hN => ?_
  · rintro σ H2 ⟨v3, p, t, rfl, D, tl, hb2, e2, X⟩
    walk_at "sj"
    with_reducible refine Rd.seqJ (fun σ' H' => ∃ (v3 : Option V) (p : Addr) (t : List (List Int)), σ' = [some (.ref b), some (.int lim), some (.ref p), v3] ∧ Drawn t ∧ (t.length : Int) ≤ lim ∧ Bag H' b ∧ But b H H' ∧ TabN H H' p t) ?_ fun N hN => ?_
    · rintro σ H2 ⟨v3, p, t, rfl, D, tl, hb2, e2, X⟩
      walk_at "st"
      exact kQ t p H2 D tl hb2 e2 X
    · walk_at "st"
      refine ⟨b, 2, rfl, by decide, by decide, hb2, fun v H3 v0 v1 hb3 e3 => ?_⟩
      have X3 := X.but hb e3
      obtain ⟨as, a1, a2, a3, a4⟩ := X3.ob
      walk_at "st"
      refine Rd.ite_d (fun c => ?_) (fun c => ?_)
      · walk_at "st"
        refine ⟨b, p, as, t, rfl, hb3, a1, (hb.ne X3.fresh).symm, a2, fun a ha => (hb.ne (a3 a ha).1).symm, D.sq, by omega, fun ns u q H4 R hb4 e4 X4 => ?_⟩
        walk_at "st"
        exact hN _ _ ⟨_, q, u, rfl, .ren D R, by rw [R.len]; exact tl, hb4, (e2.trans e3).trans e4, X4.up hb3 (e2.trans e3)⟩
      · walk_at "st"
        exact hN _ _ ⟨_, p, t, rfl, D, tl, hb3, e2.trans e3, X3⟩
  · walk_at "st"
    refine ⟨b, 4, rfl, by decide, by decide, hb1, fun v H3 v0 v1 hb3 e3 => ?_⟩
    have X3 := X1.but hb e3
    have D1 := Drawn.cyc M
    have tl := M.sq.2
    walk_at "st"
    refine Rd.ite_d (fun c => ?_) (fun c => ?_)
    · walk_at "st"
      refine ⟨b, rfl, hb3, fun fs q H4 O hb4 e4 X4 => ?_⟩
      have X5 := X3.but hb e4
      obtain ⟨as, a1, a2, a3, a4⟩ := X4.ob
      walk_at "st"
      refine Rd.len1 (.inl (SqL.of a1)) ?_
      walk_at "st"
      rw [List.length_map, a2.len]
      refine Rd.ite_d (fun c2 => ?_) (fun c2 => ?_)
      · walk_at "st"
        exact hN _ _ ⟨_, q, _, rfl, .prm O, c2, hb4, (e1.trans e3).trans e4, X4.up hb3 (e1.trans e3)⟩
      · walk_at "st"
        exact hN _ _ ⟨_, p1, _, rfl, D1, by omega, hb4, (e1.trans e3).trans e4, X5⟩
    · walk_at "st"
      exact hN _ _ ⟨_, p1, _, rfl, D1, by omega, hb3, e1.trans e3, X3⟩
end
end K10

set_option Elab.async false
set_option linter.all false
set_option maxRecDepth 100000
set_option maxHeartbeats 4000000
namespace K10
open PySem L2 Rd GT
local macro_rules | `(tactic| walk_at "st1") => `(tactic| with_reducible first
  | refine' Rd.seq ?_ | refine' Rd.nxt ?_ | refine' Rd.asg ?_ | refine' Rd.nm ?_ | refine' Rd.con ?_ | refine' Rd.op ?_ | refine' Rd.i0 ?_ | refine' Rd.un ?_ | refine' Rd.u0 ?_
  | refine' Rd.eqI ?_ | refine' Rd.neI ?_ | refine' Rd.eqB ?_ | refine' Rd.tst ?_ | refine' Rd.tB_ ?_ | refine' Rd.exb ?_ | refine' Rd.ifS ?_ | refine' Rd.ret ?_ | refine' Rd.retN ?_ | refine' Rd.drop ?_
  | refine' Rd.nil ?_ | refine' Rd.cons ?_ | refine' Rd.cb ?_ | refine' Rd.call ?_ | refine' Rd.callN ?_ | refine' Rd.andT ?_ | refine' Rd.orT ?_ | refine' Rd.notT ?_ | refine' Rd.andV ?_ | refine' Rd.orV ?_ | refine' Rd.notV ?_ | refine' Rd.chain ?_
  | refine' Rd.lst ?_ | refine' Rd.tup ?_ | refine' Rd.for_ ?_ | refine' Rd.rng1 ?_ | refine' Rd.rng2 ?_ | refine' Rd.itl ?_ | refine' Rd.itt ?_ | refine' Rd.sub ?_
  | refine' Rd.lrg ?_ | refine' Rd.rg1 ?_ | refine' Rd.rg2 ?_ | refine' Rd.exi ?_ | refine' Rd.exi2 ?_ | refine' Rd.int1 ?_ | refine' Rd.ex1 ?_ | refine' Rd.ex2 ?_
  | refine' Rd.fld ?_ | refine' Rd.sfld ?_ | refine' Rd.meth ?_ | refine' Rd.make ?_ | refine' Rd.lc ?_ | refine' Rd.bm ?_ | refine' Rd.bm0 ?_ | refine' Rd.bt ?_ | refine' Rd.enT ?_ | refine' Rd.enL ?_)
local macro_rules | `(tactic| walk_at "st") => `(tactic| repeat (first | walk_at "st1" | ((with_reducible refine' Rd.var ?hv ?_); (case hv => rfl))))
local macro_rules | `(tactic| walk_at "sj1") => `(tactic| with_reducible first
  | refine' Rd.seqA ?_ | refine' Rd.seqD ?_ | refine' Rd.seqF ?_ | refine' Rd.seqW ?_ | refine' Rd.nxt ?_ | refine' Rd.asg ?_ | refine' Rd.nm ?_ | refine' Rd.con ?_ | refine' Rd.op ?_ | refine' Rd.i0 ?_ | refine' Rd.un ?_ | refine' Rd.u0 ?_
  | refine' Rd.eqI ?_ | refine' Rd.neI ?_ | refine' Rd.eqB ?_ | refine' Rd.tst ?_ | refine' Rd.tB_ ?_ | refine' Rd.exb ?_ | refine' Rd.ifS ?_ | refine' Rd.ret ?_ | refine' Rd.retN ?_ | refine' Rd.drop ?_
  | refine' Rd.nil ?_ | refine' Rd.cons ?_ | refine' Rd.cb ?_ | refine' Rd.call ?_ | refine' Rd.callN ?_ | refine' Rd.andT ?_ | refine' Rd.orT ?_ | refine' Rd.notT ?_ | refine' Rd.andV ?_ | refine' Rd.orV ?_ | refine' Rd.notV ?_ | refine' Rd.chain ?_
  | refine' Rd.lst ?_ | refine' Rd.tup ?_ | refine' Rd.for_ ?_ | refine' Rd.rng1 ?_ | refine' Rd.rng2 ?_ | refine' Rd.itl ?_ | refine' Rd.itt ?_ | refine' Rd.sub ?_
  | refine' Rd.lrg ?_ | refine' Rd.rg1 ?_ | refine' Rd.rg2 ?_ | refine' Rd.exi ?_ | refine' Rd.exi2 ?_ | refine' Rd.int1 ?_ | refine' Rd.ex1 ?_ | refine' Rd.ex2 ?_
  | refine' Rd.fld ?_ | refine' Rd.sfld ?_ | refine' Rd.meth ?_ | refine' Rd.make ?_ | refine' Rd.lc ?_ | refine' Rd.bm ?_ | refine' Rd.bm0 ?_ | refine' Rd.bt ?_ | refine' Rd.enT ?_ | refine' Rd.enL ?_)
local macro_rules | `(tactic| walk_at "sj") => `(tactic| repeat (first | walk_at "sj1" | ((with_reducible refine' Rd.var ?hv ?_); (case hv => rfl))))
/-! ### what the law calls the same -/
def sp_same : Nat → Sp
  | 0 => fun _ _ _ _ => False
  | n + 1 => fun vs H Q _ => ∃ x y : V, vs = [x, y] ∧ DD H n x y ∧ ∀ H', Same H H' → Q (.bl true) H'
section
variable {P : Program} {w : World} {K : PySem.W.Frag} {mg : Str → Option Value} {base : Heap} {f : Addr} {fd : FuncData}
theorem isTupX {H : Hp} {Q : VK} {a : Addr} {xs : List V} (T : String) (b : Bool) (h : TupX H a xs) (k : PySem.W.kitOne [] (.type "tuple") (.type T) = some b) (k2 : ∀ K : PySem.W.Frag, PySem.W.kitOne K (.type "tuple") (.type T) = PySem.W.kitOne [] (.type "tuple") (.type T)) (q : Q (.bl b) H) : rIsi K [.ref a, .ty T] H Q := by
  rcases h with h | ⟨o, h⟩
  · exact Rd.isi (.base (.tup h)) (Rd.kit_ty (v := b) k k2) q
  · exact Rd.isi (.fTuple h) (Rd.kit_ty (v := b) k k2) q
theorem isLst {H : Hp} {Q : VK} {a : Addr} {xs : List V} (T : String) (b : Bool) (h : H a = some (.lst xs)) (k : PySem.W.kitOne [] (.type "list") (.type T) = some b) (k2 : ∀ K : PySem.W.Frag, PySem.W.kitOne K (.type "list") (.type T) = PySem.W.kitOne [] (.type "list") (.type T)) (q : Q (.bl b) H) : rIsi K [.ref a, .ty T] H Q :=
  Rd.isi (.base (.lst h)) (Rd.kit_ty (v := b) k k2) q
theorem neBB {H : Hp} {Q : VK} {a b : Bool} (h : Q (.bl (!(a == b))) H) : rNe (.bl a) (.bl b) H Q := ⟨rfl, (show Q (.bl (!decide (V.bl a = V.bl b))) H from by rw [dec_bl]; exact h)⟩
abbrev s__law_same : Stmt := (top 31)
theorem sc__law_same : FnScope ["told", "due", "key", "k"] ["told", "due"] (defScope s__law_same) := ⟨rfl, rfl, rfl, by decide +kernel, rfl, by decide +kernel, by decide +kernel⟩
theorem ok_same (n : Nat) (F : FnP K "_law_same" "_law_same" s__law_same f fd) (T : Txt K mg) (D__law_is_integer : DOk P w K mg base CX0 "_law_is_integer" 1 ["told"] sp_isint)
    (D__law_same : DOk P w K mg base CX0 "_law_same" (n + 1) ["told", "due"] (sp_same n)) : FnOk P w K mg base CX0 (n + 2) f fd ["told", "due"] (sp_same (n + 1)) := by
  refine F.ok sc__law_same (fun vs H Q E h => ?_) (fun cdv A outer s H vs Q E hr h => ?_)
  · obtain ⟨_, _, rfl, _⟩ := h; rfl
  obtain ⟨x, y, rfl, dd, k⟩ := h
  refine ⟨_, PSs.nox (pss_cons (ps_if (PW.pt (pw_or (pt_cmpR op_isN (pv 1) pe_non (nomark _)) (pw_or1 (pt_val (pe_callB (Rk.isi K) rfl T.isinstance (by decide +kernel) (pa_cons (pv 1) (pa_cons (pe_bltn rfl T.bool (by decide +kernel) (RelV_ty "bool")) pa_nil)))))))
  (pss_one (ps_ret (pe_or (pe_and (pe_cmpR op_isN (pv 0) pe_non (nomark _)) (pe_one (pe_cmpR op_isN (pv 1) pe_non (nomark _)))) (pe_one (pe_and (pe_callB (Rk.isi K) rfl T.isinstance (by decide +kernel) (pa_cons (pv 0) (pa_cons (pe_bltn rfl T.bool (by decide +kernel) (RelV_ty "bool")) pa_nil))) (pe_and (pe_callB (Rk.isi K) rfl T.isinstance (by decide +kernel) (pa_cons (pv 1) (pa_cons (pe_bltn rfl T.bool (by decide +kernel) (RelV_ty "bool")) pa_nil))) (pe_one (pe_cmpR op_eq (pv 0) (pv 1) (nomark _)))))))))
  pss_nil)
  (pss_cons (ps_if (pt_val (pe_callB (Rk.isi K) rfl T.isinstance (by decide +kernel) (pa_cons (pv 1) (pa_cons (pe_bltn rfl T.int (by decide +kernel) (RelV_ty "int")) pa_nil))))
  (pss_one (ps_ret (pe_and (callX D__law_is_integer (hr.mono (by omega)) (passN) (pa_cons (pv 0) pa_nil)) (pe_one (pe_cmpR op_eq (pv 0) (pv 1) (nomark _))))))
  pss_nil)
  (pss_cons (ps_if (pt_val (pe_callB (Rk.isi K) rfl T.isinstance (by decide +kernel) (pa_cons (pv 1) (pa_cons (pe_bltn rfl T.str (by decide +kernel) (RelV_ty "str")) pa_nil))))
  (pss_one (ps_ret (pe_and (pe_callB (Rk.isi K) rfl T.isinstance (by decide +kernel) (pa_cons (pv 0) (pa_cons (pe_bltn rfl T.str (by decide +kernel) (RelV_ty "str")) pa_nil))) (pe_one (pe_cmpR op_eq (pv 0) (pv 1) (nomark _))))))
  pss_nil)
  (pss_cons (ps_if (pt_val (pe_callB (Rk.isi K) rfl T.isinstance (by decide +kernel) (pa_cons (pv 1) (pa_cons (pe_bltn rfl T.dict (by decide +kernel) (RelV_ty "dict")) pa_nil))))
  (pss_cons (ps_if (PW.pt (pw_or (pt_not (pt_val (pe_callB (Rk.isi K) rfl T.isinstance (by decide +kernel) (pa_cons (pv 0) (pa_cons (pe_bltn rfl T.dict (by decide +kernel) (RelV_ty "dict")) pa_nil))))) (pw_or1 (pt_not (pt_val (callX D__law_same (hr.mono (by omega)) (passN) (pa_cons (pe_callTy (Rk.lis K) rfl T.list (by decide +kernel) (pa_cons (pv 0) pa_nil)) (pa_cons (pe_callTy (Rk.lis K) rfl T.list (by decide +kernel) (pa_cons (pv 1) pa_nil)) pa_nil))))))))
  (pss_one (ps_ret pe_bl))
  pss_nil)
  (pss_one (ps_ret (pe_callB (Rk.all K rfl rfl) rfl T.all (by decide +kernel) (pa_cons (pe_lc (own := [("key", 2)]) rfl sc__law_same.nd (Rk.pl K rfl (pv 1)) (blkOk_by (own := [("key", 2)]) (N := ["told", "due", "key", "k"]) (sc := defScope s__law_same) (by decide +kernel)) (fun _ _ _ _ _ => (pg_name (i := 2) sc__law_same.nd rfl (Or.inl rfl))) (fun _ _ _ _ _ => pts_nil) (fun _ _ _ _ _ => (callX D__law_same (hr.mono (by omega)) (passN) (pa_cons (pe_ix (Rk.ixA K) (pv 0) (pv 2) (fun _ _ => rfl)) (pa_cons (pe_ix (Rk.ixA K) (pv 1) (pv 2) (fun _ _ => rfl)) pa_nil))))) pa_nil)))))
  pss_nil)
  (pss_cons (ps_if (PW.pt (pw_or (pt_cmpR op_ne (pe_callB (Rk.isi K) rfl T.isinstance (by decide +kernel) (pa_cons (pv 1) (pa_cons (pe_bltn rfl T.list (by decide +kernel) (RelV_ty "list")) pa_nil))) (pe_callB (Rk.isi K) rfl T.isinstance (by decide +kernel) (pa_cons (pv 0) (pa_cons (pe_bltn rfl T.list (by decide +kernel) (RelV_ty "list")) pa_nil))) (nomark _)) (pw_or1 (pt_cmpR op_ne (pe_callB (Rk.isi K) rfl T.isinstance (by decide +kernel) (pa_cons (pv 1) (pa_cons (pe_bltn rfl T.tuple (by decide +kernel) (RelV_ty "tuple")) pa_nil))) (pe_callB (Rk.isi K) rfl T.isinstance (by decide +kernel) (pa_cons (pv 0) (pa_cons (pe_bltn rfl T.tuple (by decide +kernel) (RelV_ty "tuple")) pa_nil))) (nomark _)))))
  (pss_one (ps_ret pe_bl))
  pss_nil)
  (pss_cons (ps_if (pt_cmpR op_ne (pe_callB (Rk.len K) rfl T.len PySem.boot_len (pa_cons (pv 0) pa_nil)) (pe_callB (Rk.len K) rfl T.len PySem.boot_len (pa_cons (pv 1) pa_nil)) (nomark _))
  (pss_one (ps_ret pe_bl))
  pss_nil)
  (pss_one (ps_ret (pe_callB (Rk.all K rfl rfl) rfl T.all (by decide +kernel) (pa_cons (pe_lc (own := [("k", 3)]) rfl sc__law_same.nd (pi_range1 rfl T.range (pa_cons (pe_callB (Rk.len K) rfl T.len PySem.boot_len (pa_cons (pv 1) pa_nil)) pa_nil)) (blkOk_by (own := [("k", 3)]) (N := ["told", "due", "key", "k"]) (sc := defScope s__law_same) (by decide +kernel)) (fun _ _ _ _ _ => (pg_name (i := 3) sc__law_same.nd rfl (Or.inl rfl))) (fun _ _ _ _ _ => pts_nil) (fun _ _ _ _ _ => (callX D__law_same (hr.mono (by omega)) (passN) (pa_cons (pe_ix (Rk.ixA K) (pv 0) (pv 3) (fun _ _ => rfl)) (pa_cons (pe_ix (Rk.ixA K) (pv 1) (pv 3) (fun _ _ => rfl)) pa_nil))))) pa_nil)))))))))), ?_⟩
  cases dd with
  | bl _ b =>
    walk_at "st"
    refine ⟨rfl, ?_⟩
    walk_at "st"
    refine (if_neg (by simp)).mpr ?_
    walk_at "st"
    refine Rd.isi (.base (.bl b)) (Rd.kit_ty (v := true) (by decide +kernel)) ?_
    walk_at "st"
    refine (if_pos rfl).mpr ?_
    walk_at "st"
    refine ⟨rfl, ?_⟩
    walk_at "st"
    refine (if_neg (by simp)).mpr ?_
    walk_at "st"
    refine (if_neg (by simp)).mpr ?_
    walk_at "st"
    refine Rd.isi (.base (.bl b)) (Rd.kit_ty (v := true) (by decide +kernel)) ?_
    walk_at "st"
    refine (if_pos rfl).mpr ?_
    walk_at "st"
    refine Rd.isi (.base (.bl b)) (Rd.kit_ty (v := true) (by decide +kernel)) ?_
    walk_at "st"
    refine (if_pos rfl).mpr ?_
    walk_at "st"
    rw [beq_self_eq_true]
    exact k _ (Same.refl _)
  | int _ i =>
    walk_at "st"
    refine ⟨rfl, ?_⟩
    walk_at "st"
    refine (if_neg (by simp)).mpr ?_
    walk_at "st"
    refine Rd.isi (.base (.int i)) (Rd.kit_ty (b := "bool") (v := false) (by decide +kernel)) ?_
    walk_at "st"
    refine (if_neg (by simp)).mpr ?_
    walk_at "st"
    refine Rd.isi (.base (.int i)) (Rd.kit_ty (v := true) (by decide +kernel)) ?_
    walk_at "st"
    refine (if_pos rfl).mpr ?_
    walk_at "st"
    refine ⟨i, rfl, ?_⟩
    walk_at "st"
    refine (if_pos rfl).mpr ?_
    walk_at "st"
    rw [decide_eq_true rfl]
    exact k _ (Same.refl _)
  | @lst m a b xs ys h1 h2 h3 h4 h5 =>
    walk_at "st"
    refine ⟨rfl, ?_⟩
    walk_at "st"
    refine (if_neg (by simp)).mpr ?_
    walk_at "st"
    refine isLst "bool" false h2 (by decide +kernel) (by intro K; rfl) ?_
    walk_at "st"
    refine (if_neg (by simp)).mpr ?_
    walk_at "st"
    refine isLst "int" false h2 (by decide +kernel) (by intro K; rfl) ?_
    walk_at "st"
    refine (if_neg (by simp)).mpr ?_
    walk_at "st"
    refine isLst "str" false h2 (by decide +kernel) (by intro K; rfl) ?_
    walk_at "st"
    refine (if_neg (by simp)).mpr ?_
    walk_at "st"
    refine isLst "dict" false h2 (by decide +kernel) (by intro K; rfl) ?_
    walk_at "st"
    refine (if_neg (by simp)).mpr ?_
    walk_at "st"
    refine isLst "list" true h2 (by decide +kernel) (by intro K; rfl) ?_
    walk_at "st"
    refine isLst "list" true h1 (by decide +kernel) (by intro K; rfl) ?_
    refine neBB ?_
    walk_at "st"
    refine (if_neg (by simp)).mpr ?_
    walk_at "st"
    refine isLst "tuple" false h2 (by decide +kernel) (by intro K; rfl) ?_
    walk_at "st"
    refine isLst "tuple" false h1 (by decide +kernel) (by intro K; rfl) ?_
    refine neBB ?_
    walk_at "st"
    refine (if_neg (by simp)).mpr ?_
    walk_at "st"
    refine Rd.len1 (.inl (SqL.of h1)) ?_
    walk_at "st"
    refine Rd.len1 (.inl (SqL.of h2)) ?_
    walk_at "st"
    refine Rd.ite_n (fun c => absurd (by omega) c) (fun _ => ?_)
    walk_at "st"
    refine Rd.len1 (.inl (SqL.of h2)) ?_
    refine ⟨_, rfl, by omega, by omega, ?_⟩
    refine Rd.lcMap (fun _ => .bl true) (Rd.src_rng 0 _ H) (by rw [Rd.rgL_len]; omega) (by intro _; rfl) (fun j z H1 Q1 hz e1 q1 => ?_) (fun p H1 hp e1 h6 => ?_)
    · have hj : j < ys.length := by
        have := (List.getElem?_eq_some_iff.mp hz).1
        rw [Rd.rgL_len] at this
        omega
      rw [Rd.rgL_get (by omega)] at hz
      cases hz
      walk_at "st"
      refine .inl (Rd.ixL (SqL.of (e1 _ _ h1)) (at_of (j := j) (v := xs[j]'(by omega)) (by omega) (List.getElem?_eq_getElem (by omega))) ?_)
      walk_at "st"
      refine .inl (Rd.ixL (SqL.of (e1 _ _ h2)) (at_of (j := j) (v := ys[j]) (by omega) (List.getElem?_eq_getElem hj)) ?_)
      exact ⟨_, _, rfl, (h5 j _ _ (List.getElem?_eq_getElem (by omega)) (List.getElem?_eq_getElem hj)).same e1, fun H2 e2 => q1 _ e2⟩
    · walk_at "st"
      refine ⟨p, _, rfl, SqL.of (by rw [h6, map_bl _ (fun _ => true)]), ?_⟩
      rw [all_id.mpr fun _ _ => rfl]
      exact k _ e1
  | @tup m a b xs ys h1 h2 h3 h4 h5 =>
    walk_at "st"
    refine ⟨rfl, ?_⟩
    walk_at "st"
    refine (if_neg (by simp)).mpr ?_
    walk_at "st"
    refine isTupX "bool" false h2 (by decide +kernel) (by intro K; rfl) ?_
    walk_at "st"
    refine (if_neg (by simp)).mpr ?_
    walk_at "st"
    refine isTupX "int" false h2 (by decide +kernel) (by intro K; rfl) ?_
    walk_at "st"
    refine (if_neg (by simp)).mpr ?_
    walk_at "st"
    refine isTupX "str" false h2 (by decide +kernel) (by intro K; rfl) ?_
    walk_at "st"
    refine (if_neg (by simp)).mpr ?_
    walk_at "st"
    refine isTupX "dict" false h2 (by decide +kernel) (by intro K; rfl) ?_
    walk_at "st"
    refine (if_neg (by simp)).mpr ?_
    walk_at "st"
    refine isTupX "list" false h2 (by decide +kernel) (by intro K; rfl) ?_
    walk_at "st"
    refine isTupX "list" false h1 (by decide +kernel) (by intro K; rfl) ?_
    refine neBB ?_
    walk_at "st"
    refine (if_neg (by simp)).mpr ?_
    walk_at "st"
    refine isTupX "tuple" true h2 (by decide +kernel) (by intro K; rfl) ?_
    walk_at "st"
    refine isTupX "tuple" true h1 (by decide +kernel) (by intro K; rfl) ?_
    refine neBB ?_
    walk_at "st"
    refine (if_neg (by simp)).mpr ?_
    walk_at "st"
    refine Rd.len1 (.inr h1.sq) ?_
    walk_at "st"
    refine Rd.len1 (.inr h2.sq) ?_
    walk_at "st"
    refine Rd.ite_n (fun c => absurd (by omega) c) (fun _ => ?_)
    walk_at "st"
    refine Rd.len1 (.inr h2.sq) ?_
    refine ⟨_, rfl, by omega, by omega, ?_⟩
    refine Rd.lcMap (fun _ => .bl true) (Rd.src_rng 0 _ H) (by rw [Rd.rgL_len]; omega) (by intro _; rfl) (fun j z H1 Q1 hz e1 q1 => ?_) (fun p H1 hp e1 h6 => ?_)
    · have hj : j < ys.length := by
        have := (List.getElem?_eq_some_iff.mp hz).1
        rw [Rd.rgL_len] at this
        omega
      rw [Rd.rgL_get (by omega)] at hz
      cases hz
      walk_at "st"
      refine .inr (Rd.ixT (h1.same e1).sq (at_of (j := j) (v := xs[j]'(by omega)) (by omega) (List.getElem?_eq_getElem (by omega))) ?_)
      walk_at "st"
      refine .inr (Rd.ixT (h2.same e1).sq (at_of (j := j) (v := ys[j]) (by omega) (List.getElem?_eq_getElem hj)) ?_)
      exact ⟨_, _, rfl, (h5 j _ _ (List.getElem?_eq_getElem (by omega)) (List.getElem?_eq_getElem hj)).same e1, fun H2 e2 => q1 _ e2⟩
    · walk_at "st"
      refine ⟨p, _, rfl, SqL.of (by rw [h6, map_bl _ (fun _ => true)]), ?_⟩
      rw [all_id.mpr fun _ _ => rfl]
      exact k _ e1
end
end K10

set_option Elab.async false
set_option linter.all false
set_option maxRecDepth 100000
set_option maxHeartbeats 4000000
namespace K10
open PySem L2 Rd GT
local macro_rules | `(tactic| walk_at "st1") => `(tactic| with_reducible first
  | refine' Rd.seq ?_ | refine' Rd.nxt ?_ | refine' Rd.asg ?_ | refine' Rd.nm ?_ | refine' Rd.con ?_ | refine' Rd.op ?_ | refine' Rd.i0 ?_ | refine' Rd.un ?_ | refine' Rd.u0 ?_
  | refine' Rd.eqI ?_ | refine' Rd.neI ?_ | refine' Rd.eqB ?_ | refine' Rd.tst ?_ | refine' Rd.tB_ ?_ | refine' Rd.exb ?_ | refine' Rd.ifS ?_ | refine' Rd.ret ?_ | refine' Rd.retN ?_ | refine' Rd.drop ?_
  | refine' Rd.nil ?_ | refine' Rd.cons ?_ | refine' Rd.cb ?_ | refine' Rd.call ?_ | refine' Rd.callN ?_ | refine' Rd.andT ?_ | refine' Rd.orT ?_ | refine' Rd.notT ?_ | refine' Rd.andV ?_ | refine' Rd.orV ?_ | refine' Rd.notV ?_ | refine' Rd.chain ?_
  | refine' Rd.lst ?_ | refine' Rd.tup ?_ | refine' Rd.for_ ?_ | refine' Rd.rng1 ?_ | refine' Rd.rng2 ?_ | refine' Rd.itl ?_ | refine' Rd.itt ?_ | refine' Rd.sub ?_
  | refine' Rd.lrg ?_ | refine' Rd.rg1 ?_ | refine' Rd.rg2 ?_ | refine' Rd.exi ?_ | refine' Rd.exi2 ?_ | refine' Rd.int1 ?_ | refine' Rd.ex1 ?_ | refine' Rd.ex2 ?_
  | refine' Rd.fld ?_ | refine' Rd.sfld ?_ | refine' Rd.meth ?_ | refine' Rd.make ?_ | refine' Rd.lc ?_ | refine' Rd.bm ?_ | refine' Rd.bm0 ?_ | refine' Rd.bt ?_ | refine' Rd.enT ?_ | refine' Rd.enL ?_)
local macro_rules | `(tactic| walk_at "st") => `(tactic| repeat (first | walk_at "st1" | ((with_reducible refine' Rd.var ?hv ?_); (case hv => rfl))))
local macro_rules | `(tactic| walk_at "sj1") => `(tactic| with_reducible first
  | refine' Rd.seqA ?_ | refine' Rd.seqD ?_ | refine' Rd.seqF ?_ | refine' Rd.seqW ?_ | refine' Rd.nxt ?_ | refine' Rd.asg ?_ | refine' Rd.nm ?_ | refine' Rd.con ?_ | refine' Rd.op ?_ | refine' Rd.i0 ?_ | refine' Rd.un ?_ | refine' Rd.u0 ?_
  | refine' Rd.eqI ?_ | refine' Rd.neI ?_ | refine' Rd.eqB ?_ | refine' Rd.tst ?_ | refine' Rd.tB_ ?_ | refine' Rd.exb ?_ | refine' Rd.ifS ?_ | refine' Rd.ret ?_ | refine' Rd.retN ?_ | refine' Rd.drop ?_
  | refine' Rd.nil ?_ | refine' Rd.cons ?_ | refine' Rd.cb ?_ | refine' Rd.call ?_ | refine' Rd.callN ?_ | refine' Rd.andT ?_ | refine' Rd.orT ?_ | refine' Rd.notT ?_ | refine' Rd.andV ?_ | refine' Rd.orV ?_ | refine' Rd.notV ?_ | refine' Rd.chain ?_
  | refine' Rd.lst ?_ | refine' Rd.tup ?_ | refine' Rd.for_ ?_ | refine' Rd.rng1 ?_ | refine' Rd.rng2 ?_ | refine' Rd.itl ?_ | refine' Rd.itt ?_ | refine' Rd.sub ?_
  | refine' Rd.lrg ?_ | refine' Rd.rg1 ?_ | refine' Rd.rg2 ?_ | refine' Rd.exi ?_ | refine' Rd.exi2 ?_ | refine' Rd.int1 ?_ | refine' Rd.ex1 ?_ | refine' Rd.ex2 ?_
  | refine' Rd.fld ?_ | refine' Rd.sfld ?_ | refine' Rd.meth ?_ | refine' Rd.make ?_ | refine' Rd.lc ?_ | refine' Rd.bm ?_ | refine' Rd.bm0 ?_ | refine' Rd.bt ?_ | refine' Rd.enT ?_ | refine' Rd.enL ?_)
local macro_rules | `(tactic| walk_at "sj") => `(tactic| repeat (first | walk_at "sj1" | ((with_reducible refine' Rd.var ?hv ?_); (case hv => rfl))))
theorem TabN.at {H H' : Hp} {p : Addr} {u : List (List Int)} (X : TabN H H' p u) {i : Nat} (hi : i < u.length) : ∃ (as : List Addr) (a : Addr) (r : List Int), H' p = some (.lst (as.map V.ref)) ∧ as[i]? = some a ∧ u[i]? = some r ∧ H' a = some (.lst (r.map V.int)) ∧ H a = none ∧ as.length = u.length ∧
    ∀ r' : List Int, TabN H (upd H' a (.lst (r'.map V.int))) p (u.set i r') := by
  obtain ⟨as, h1, h2, h3, h4⟩ := X.ob
  obtain ⟨a, r, g1, g2, g3⟩ := h2.get hi
  obtain ⟨f1, f2⟩ := h3 a (List.mem_of_getElem? g1)
  exact ⟨as, a, r, h1, g1, g2, g3, f1, h2.len, fun r' => ⟨X.fresh, as, by rw [upd_ne f2.symm]; exact h1, h2.put h4 g1, h3, h4⟩⟩
theorem TabN.drop {H H' : Hp} {p : Addr} {u : List (List Int)} (X : TabN H H' p u) : ∃ as : List Addr, H' p = some (.lst (as.map V.ref)) ∧ as.length = u.length ∧ TabN H (upd H' p (.lst (as.dropLast.map V.ref))) p u.dropLast := by
  obtain ⟨as, h1, h2, h3, h4⟩ := X.ob
  refine ⟨as, h1, h2.len, X.fresh, as.dropLast, upd_same, ⟨by rw [List.length_dropLast, List.length_dropLast, h2.len], fun i a r g1 g2 => ?_⟩, fun a ha => h3 a ((List.dropLast_subset _) ha), (List.dropLast_sublist as).nodup h4⟩
  rw [List.getElem?_dropLast] at g1 g2
  split at g1
  · split at g2
    · unfold LstN
      rw [upd_ne (h3 a (List.mem_of_getElem? g1)).2]
      exact h2.row i a r g1 g2
    · cases g2
  · cases g1
/-- a table in the heap -/
structure TabAt (H : Hp) (p : Addr) (t : List (List Int)) : Prop where
  ob : ∃ as : List Addr, H p = some (.lst (as.map V.ref)) ∧ Rows LstN H as t
theorem TabAt.same {H H' : Hp} {p : Addr} {t : List (List Int)} (X : TabAt H p t) (e : Same H H') : TabAt H' p t := by
  obtain ⟨as, h1, h2⟩ := X.ob
  exact ⟨as, e _ _ h1, h2.sameL e⟩
theorem TabAt.row {K : PySem.W.Frag} {H : Hp} {p : Addr} {t : List (List Int)} (X : TabAt H p t) {x : Nat} (hx : x < t.length) : ∃ (xs : List V) (a : Addr) (r : List Int), SqL K H p xs ∧ atI xs (x : Int) = some (.ref a) ∧ SqL K H a (r.map V.int) ∧ t[x]? = some r := by
  obtain ⟨as, h1, h2⟩ := X.ob
  obtain ⟨a, r, g1, g2, g3⟩ := h2.get hx
  exact ⟨_, a, r, SqL.of h1, at_of (j := x) rfl (by rw [List.getElem?_map, g1]; rfl), SqL.of g3, g2⟩
theorem TabAt.cell {K : PySem.W.Frag} {H : Hp} {p : Addr} {t : List (List Int)} (X : TabAt H p t) (S : Sq t) {x y : Nat} (hx : x < t.length) (hy : y < t.length) : ∃ (xs : List V) (a : Addr) (rs : List V), SqL K H p xs ∧ atI xs (x : Int) = some (.ref a) ∧ SqL K H a rs ∧ atI rs (y : Int) = some (.int (mul t x y : Nat)) := by
  obtain ⟨xs, a, r, h1, h2, h3, h4⟩ := X.row (K := K) hx
  obtain ⟨_, _, r', w1, w2⟩ := S.at hx hy
  rw [h4] at w1
  cases w1
  rw [S.mul_eq hx hy] at w2
  exact ⟨xs, a, _, h1, h2, h3, at_of (j := y) rfl (map_get_int w2)⟩
theorem TabAt.len {H : Hp} {p : Addr} {t : List (List Int)} (X : TabAt H p t) : ∃ as : List Addr, H p = some (.lst (as.map V.ref)) ∧ (as.map V.ref).length = t.length := by
  obtain ⟨as, h1, h2⟩ := X.ob
  exact ⟨as, h1, by rw [List.length_map, h2.len]⟩
def sp_closed : Sp := fun vs H Q _ => ∃ (p a : Addr) (t : List (List Int)) (ns : List Int), vs = [.ref p, .ref a] ∧ TabAt H p t ∧ Sq t ∧ t.length ≤ 33 ∧ H a = some (.lst (ns.map V.int)) ∧ InG t ns ∧
  ∀ l out H', Closed t ns out → H l = none → Same H H' → H' l = some (.lst (out.map V.int)) → Q (.ref l) H'
def sp_lord : Sp := fun vs H Q _ => ∃ (p : Addr) (t : List (List Int)) (x : Nat), vs = [.ref p, .int (x : Nat)] ∧ TabAt H p t ∧ Grp t ∧ t.length ≤ 33 ∧ x < t.length ∧ ∀ k, IsOrd t x k → Q (.int (k : Nat)) H
def sp_many : Sp := fun vs H Q _ => ∃ (p : Addr) (t : List (List Int)) (x k : Nat), vs = [.ref p, .int (x : Nat), .int (k : Nat)] ∧ TabAt H p t ∧ Grp t ∧ t.length ≤ 33 ∧ x < t.length ∧ k ≤ 1000 ∧ Q (.int (pw t x k : Nat)) H
def sp_lgens : Sp := fun vs H Q _ => ∃ (p : Addr) (t : List (List Int)), vs = [.ref p] ∧ TabAt H p t ∧ Grp t ∧ t.length ≤ 33 ∧ ∀ l H', H l = none → Same H H' → H' l = some (.lst ((gensTo t t.length).map V.int)) → Q (.ref l) H'
section
variable {P : Program} {w : World} {K : PySem.W.Frag} {mg : Str → Option Value} {base : Heap} {f : Addr} {fd : FuncData}
abbrev s__law_closed : Stmt := (top 29)
theorem sc__law_closed : FnScope ["table", "members", "reached", "at", "member"] ["table", "members"] (defScope s__law_closed) := ⟨rfl, rfl, rfl, by decide +kernel, rfl, by decide +kernel, by decide +kernel⟩
theorem ok_closed (F : FnP K "_law_closed" "_law_closed" s__law_closed f fd) (T : Txt K mg) : FnOk P w K mg base CX0 1 f fd ["table", "members"] sp_closed := by
  refine F.ok sc__law_closed (fun vs H Q E h => ?_) (fun cdv A outer s H vs Q E hr h => ?_)
  · obtain ⟨_, _, _, _, rfl, _⟩ := h; rfl
  obtain ⟨p, a, t, ns, rfl, X, S, t33, ha, ig, kQ⟩ := h
  refine ⟨_, PSs.nox (pss_cons (ps_set (i := 2) sc__law_closed.nd rfl (Or.inl rfl) (pe_lst (pa_cons pe_int pa_nil)))
  (pss_cons (ps_for PassesOwn.never rfl (pi_range1 rfl T.range (pa_cons (pe_callB (Rk.len K) rfl T.len PySem.boot_len (pa_cons (pv 0) pa_nil)) pa_nil)) (pg_name (i := 3) sc__law_closed.nd rfl (Or.inl rfl))
  (pss_one (ps_if (pt_cmpR op_lt (pv 3) (pe_callB (Rk.len K) rfl T.len PySem.boot_len (pa_cons (pv 2) pa_nil)) (nomark _))
  (pss_one (ps_for PassesOwn.never rfl (Rk.pl K rfl (pv 1)) (pg_name (i := 4) sc__law_closed.nd rfl (Or.inl rfl))
  (pss_one (ps_if (pt_cmpR (Rk.ninS K) (pe_ix (Rk.ixL K) (pe_ix (Rk.ixL K) (pv 0) (pe_ix (Rk.ixL K) (pv 2) (pv 3) (fun _ _ => rfl)) (fun _ _ => rfl)) (pv 4) (fun _ _ => rfl)) (pv 2) (by with_unfolding_all rfl))
  (pss_one (ps_expr (Rk.bm K rfl PySem.F.plainAttrs_list PySem.F.slot_list_append PySem.F.type_list_append mt_append (pv 2) (pa_cons (pe_ix (Rk.ixL K) (pe_ix (Rk.ixL K) (pv 0) (pe_ix (Rk.ixL K) (pv 2) (pv 3) (fun _ _ => rfl)) (fun _ _ => rfl)) (pv 4) (fun _ _ => rfl)) pa_nil))))
  pss_nil))))
  pss_nil)))
  (pss_one (ps_ret (pe_callB (Rk.sortI K) rfl T.sorted (by decide +kernel) (pa_cons (pv 2) pa_nil)))))), ?_⟩
  walk_at "st"
  refine ⟨(by decide : 1 ≤ sizeLine), fun fo hfo => ?_⟩
  have e1 := Rd.same_mk (o := .lst [.int 0]) hfo
  have f1 : (upd H fo (.lst [.int 0])) fo = some (.lst ([(0 : Int)].map V.int)) := upd_same
  generalize upd H fo (.lst [.int 0]) = H1 at e1 f1
  obtain ⟨as, p1, pl⟩ := (X.same e1).len
  walk_at "st"
  refine Rd.len1 (.inl (SqL.of p1)) ?_
  rw [pl]
  refine Rd.rng1' (by omega) (by omega) ?_
  refine for_range (fun i σ H' => ∃ (v3 v4 : Option V) (fs : List Int), σ = [some (.ref p), some (.ref a), some (.ref fo), v3, v4] ∧ Same H H' ∧ H' fo = some (.lst (fs.map V.int)) ∧ GenF t ns fs ∧ (∀ j x, j < i → fs[j]? = some x → ∀ m ∈ ns, at2 t x.toNat m.toNat ∈ fs))
    ⟨none, none, [0], rfl, e1, f1, GenF.start t ns, fun j x h => by omega⟩ ?_ ?_
  · rintro i σ H' hi ⟨v3, v4, fs, rfl, e2, hf, F1, cl⟩
    rw [Int.zero_add]
    walk_at "st"
    refine Rd.len1 (.inl (SqL.of hf)) ?_
    walk_at "st"
    rw [List.length_map]
    refine Rd.ite_d (fun c => ?_) (fun c => ?_)
    · have hlt : i < fs.length := by omega
      have hx : fs[i]? = some fs[i] := List.getElem?_eq_getElem hlt
      generalize fs[i] = x at hx
      have xm := List.mem_of_getElem? hx
      obtain ⟨x0, x1⟩ := (F1.re x xm).lt S ig
      walk_at "st"
      refine Rd.itl' (SqL.of (e2 _ _ ha)) ?_
      refine for_list (K := K) (a := a) (xs := ns.map V.int) (fun k σ H2 => ∃ (v4 : Option V) (fs2 : List Int), σ = [some (.ref p), some (.ref a), some (.ref fo), some (.int (i : Nat)), v4] ∧ Same H H2 ∧ H2 fo = some (.lst (fs2.map V.int)) ∧ GenF t ns fs2 ∧ (∃ more, fs2 = fs ++ more) ∧ ∀ j m, j < k → ns[j]? = some m → at2 t x.toNat m.toNat ∈ fs2)
        ⟨v4, fs, rfl, e2, hf, F1, ⟨[], (List.append_nil _).symm⟩, fun j m h => by omega⟩ (fun i σ H2 _ ⟨_, _, _, e, _⟩ => SqL.of (e _ _ ha)) ?_ ?_
      · rintro k y σ H2 hy ⟨v4, fs2, rfl, e3, hf2, F2, ⟨more, rfl⟩, cl2⟩
        obtain ⟨z, hz, rfl⟩ := intAt hy
        have zm := List.mem_of_getElem? hz
        obtain ⟨z0, z1⟩ := ig z zm
        have hx2 : (fs ++ more)[i]? = some x := by rw [List.getElem?_append_left hlt]; exact hx
        have few := F2.few S ig
        have nd2 := F2.add (List.mem_append_left _ xm) zm
        obtain ⟨xs, ax, rs, c1, c2, c3, c4⟩ := (X.same e3).cell (K := K) S (x := x.toNat) (y := z.toNat) (by omega) (by omega)
        rw [Int.toNat_of_nonneg x0] at c2
        rw [Int.toNat_of_nonneg z0, ← S.mul_eq (by omega) (by omega)] at c4
        have stay : ∀ (fs3 : List Int), (∀ j m, j < k → ns[j]? = some m → at2 t x.toNat m.toNat ∈ fs3) → at2 t x.toNat z.toNat ∈ fs3 → ∀ j m, j < k + 1 → ns[j]? = some m → at2 t x.toNat m.toNat ∈ fs3 := by
          intro fs3 h1 h2 j m hj hm
          by_cases q : j < k
          · exact h1 j m q hm
          · rw [show j = k by omega, hz] at hm
            cases hm
            exact h2
        walk_at "st"
        refine Rd.ixL (SqL.of hf2) (at_of (j := i) rfl (map_get_int hx2)) ?_
        refine Rd.ixL c1 c2 ?_
        walk_at "st"
        refine Rd.ixL c3 c4 ?_
        walk_at "st"
        refine Rd.notInI (.inl (SqL.of hf2)) ?_
        walk_at "st"
        refine Rd.ite_n (fun no => ?_) (fun yes => ?_)
        · walk_at "st"
          refine Rd.tyL hf2 ?_
          walk_at "st"
          refine Rd.ixL (SqL.of hf2) (at_of (j := i) rfl (map_get_int hx2)) ?_
          refine Rd.ixL c1 c2 ?_
          walk_at "st"
          refine Rd.ixL c3 c4 ?_
          walk_at "st"
          refine Rd.app hf2 (by rw [List.length_map]; exact line_of (by omega)) ?_
          rw [map_add_int]
          walk_at "st"
          exact ⟨_, fs ++ more ++ [at2 t x.toNat z.toNat], rfl, Rd.same_mut e3 hfo, upd_same, nd2 no, ⟨more ++ [at2 t x.toNat z.toNat], by rw [List.append_assoc]⟩, stay _ (fun j m hj hm => List.mem_append_left _ (cl2 j m hj hm)) (List.mem_append_right _ (List.mem_singleton.mpr rfl))⟩
        · walk_at "st"
          exact ⟨_, fs ++ more, rfl, e3, hf2, F2, ⟨more, rfl⟩, stay _ cl2 yes⟩
      · rintro σ H2 ⟨v4, fs2, rfl, e3, hf2, F2, ⟨more, rfl⟩, cl2⟩
        walk_at "st"
        refine ⟨_, _, fs ++ more, rfl, e3, hf2, F2, fun j y hj hy m hm => ?_⟩
        by_cases q : j < i
        · rw [List.getElem?_append_left (by omega)] at hy
          exact List.mem_append_left _ (cl j y q hy m hm)
        · rw [show j = i by omega, List.getElem?_append_left hlt, hx] at hy
          cases hy
          obtain ⟨k, hk, rfl⟩ := List.getElem_of_mem hm
          exact cl2 k _ (by rw [List.length_map]; exact hk) (List.getElem?_eq_getElem hk)
    · walk_at "st"
      refine ⟨_, _, fs, rfl, e2, hf, F1, fun j y hj hy m hm => ?_⟩
      by_cases q : j < i
      · exact cl j y q hy m hm
      · have := (List.getElem?_eq_some_iff.mp hy).1
        omega
  · rintro σ H' ⟨v3, v4, fs, rfl, e2, hf, F1, cl⟩
    have few := F1.few S ig
    walk_at "st"
    refine ⟨fo, fs, rfl, SqL.of hf, fun ns' l perm srt hl => ?_⟩
    refine kQ l ns' _ (F1.done (fun x hx m hm => ?_) perm srt) (Same.free e2 hl) (Rd.same_add e2 hl) upd_same
    obtain ⟨j, hj, rfl⟩ := List.getElem_of_mem hx
    exact cl j _ (by omega) (List.getElem?_eq_getElem hj) m hm
end
theorem isTup {K : PySem.W.Frag} {H : Hp} {Q : VK} {a : Addr} {xs : List V} (h : TupN H a xs) (q : Q (.bl true) H) : rIsi K [.ref a, .ty "tuple"] H Q := by
  obtain ⟨ob, _, e⟩ := h
  exact Rd.isi (.fTuple e) (Rd.kit_ty (v := true) (by decide +kernel)) q
theorem TabAt.dp {K : PySem.W.Frag} {H : Hp} {p : Addr} {t : List (List Int)} (X : TabAt H p t) : Dp K H (.ref p) (lL t) := by
  obtain ⟨as, h1, h2⟩ := X.ob
  exact .lst (SqL.of h1) (dpRowsL h2)
theorem neTab {K : PySem.W.Frag} {H : Hp} {Q : VK} {p q : Addr} {t u : List (List Int)} (X : TabAt H p t) (Y : TabAt H q u) (h : Q (.bl (!decide (t = u))) H) : rNeD K (.ref p) (.ref q) H Q :=
  ⟨_, _, X.dp, Y.dp, lL_shaped _, lL_shaped _, by rw [lL_eqv]; exact h⟩
theorem idx0 {K : PySem.W.Frag} {H : Hp} {Q : VK} {a : Addr} {r : List Int} (h : SqL K H a (r.map V.int)) (m : (0 : Int) ∈ r) (q : Q (.int (r.idxOf 0 : Nat)) H) : rIndex K (.ref a) [.int 0] H Q := by
  obtain ⟨w1, w2⟩ := idx_of m
  refine ⟨a, r.map V.int, .int 0, r.idxOf 0, .int 0, rfl, rfl, h, rfl, flat_ints r, map_get_int w1, by simp [eqV], fun k z hk hz => ?_, q⟩
  obtain ⟨u, hu, rfl⟩ := intAt hz
  have : u ≠ 0 := fun e => w2 k hk (e ▸ hu)
  simp [eqV, this]
/-! ### growing lists of lists -/
def without (e : Addr) (H : Hp) : Hp := fun b => if b = e then none else H b
theorem without_same {e : Addr} {H : Hp} : Same (without e H) H := fun b o h => by
  unfold without at h
  split at h
  · cases h
  · exact h
theorem without_at {e : Addr} {H : Hp} : without e H e = none := if_pos rfl
theorem without_free {e b : Addr} {H : Hp} (h : H b = none) : without e H b = none := by
  unfold without
  split
  · rfl
  · exact h
theorem TabN.sub {H0 H1 H : Hp} {p : Addr} {t : List (List Int)} (X : TabN H1 H p t) (e : Same H0 H1) : TabN H0 H p t := by
  obtain ⟨as, h1, h2, h3, h4⟩ := X.ob
  exact ⟨Same.free e X.fresh, as, h1, h2, fun a ha => ⟨Same.free e (h3 a ha).1, (h3 a ha).2⟩, h4⟩
theorem TabN.on {H0 H1 H2 : Hp} {p : Addr} {t : List (List Int)} (X : TabN H0 H1 p t) (e : Same H1 H2) : TabN H0 H2 p t := by
  obtain ⟨as, h1, h2, h3, h4⟩ := X.ob
  exact ⟨X.fresh, as, e _ _ h1, h2.sameL e, h3, h4⟩
theorem TabN.nil {H0 H1 : Hp} {p : Addr} (h0 : H0 p = none) : TabN H0 (upd H1 p (.lst [])) p [] :=
  ⟨h0, [], upd_same, ⟨rfl, fun i a r h1 h2 => by simp at h1⟩, fun a ha => (by cases ha), List.nodup_nil⟩
theorem TabN.add {H0 H1 H2 : Hp} {p rp : Addr} {as : List Addr} {t : List (List Int)} {r : List Int} (X : TabN H0 H1 p t) (ha : H1 p = some (.lst (as.map V.ref))) (hr : H1 rp = none) (h0 : H0 rp = none) (e : Same H1 H2) (h2 : H2 rp = some (.lst (r.map V.int))) :
    TabN H0 (upd H2 p (.lst ((as ++ [rp]).map V.ref))) p (t ++ [r]) := by
  obtain ⟨as', a1, a2, a3, a4⟩ := X.ob
  rw [ha] at a1
  have ea : as = as' := by
    have := HO.lst.inj (Option.some.inj a1)
    exact (List.map_inj_right fun x y h => V.ref.inj h).mp this
  subst ea
  have nrp : rp ≠ p := fun z => by rw [z, ha] at hr; cases hr
  have rna : rp ∉ as := fun hm => by
    obtain ⟨j, hj⟩ := List.getElem?_of_mem hm
    obtain ⟨aj, rj, j1, j2, j3⟩ := a2.get (i := j) (by rw [← a2.len]; exact (List.getElem?_eq_some_iff.mp hj).1)
    rw [hj] at j1
    cases j1
    unfold LstN at j3
    rw [hr] at j3
    cases j3
  refine ⟨X.fresh, as ++ [rp], upd_same, ⟨by rw [List.length_append, List.length_append, a2.len]; rfl, fun j a r' j1 j2 => ?_⟩, fun a ha => ?_, List.nodup_append.mpr ⟨a4, by simp, fun u hu y hy => by rw [List.mem_singleton.mp hy]; intro q; exact rna (q ▸ hu)⟩⟩
  · by_cases q : j < as.length
    · rw [List.getElem?_append_left q] at j1
      rw [List.getElem?_append_left (by rw [← a2.len]; exact q)] at j2
      have j3 := a2.row j a r' j1 j2
      unfold LstN at j3 ⊢
      rw [upd_ne (a3 a (List.mem_of_getElem? j1)).2]
      exact e _ _ j3
    · have lu := (List.getElem?_eq_some_iff.mp j1).1
      rw [List.length_append, List.length_singleton] at lu
      have ej : j = as.length := by omega
      subst ej
      rw [List.getElem?_append_right (Nat.le_refl _), Nat.sub_self] at j1
      rw [a2.len, List.getElem?_append_right (Nat.le_refl _), Nat.sub_self] at j2
      cases j1
      cases j2
      unfold LstN
      rw [upd_ne nrp]
      exact h2
  · rcases List.mem_append.mp ha with q | q
    · exact a3 a q
    · rw [List.mem_singleton.mp q]
      exact ⟨h0, nrp⟩
theorem TabN.keys {H0 H : Hp} {p : Addr} {t : List (List Int)} (X : TabN H0 H p t) : ∃ (as : List Addr) (k : Addr → List Int), H p = some (.lst (as.map V.ref)) ∧ as.length = t.length ∧ (∀ a ∈ as, H a = some (.lst ((k a).map V.int))) ∧ as.map k = t ∧ as.Nodup ∧ ∀ a ∈ as, H0 a = none := by
  obtain ⟨fa, a1, rows, a3, nd⟩ := X.ob
  have kp : ∀ i a, fa[i]? = some a → t.getD (fa.idxOf a) [] = t.getD i [] := fun i a hi => by
    obtain ⟨h1, h2⟩ := List.getElem?_eq_some_iff.mp hi
    rw [← h2, nd.idxOf_getElem i h1]
  refine ⟨fa, fun a => t.getD (fa.idxOf a) [], a1, rows.len, fun a ha => ?_, ?_, nd, fun a ha => (a3 a ha).1⟩
  · obtain ⟨i, hi⟩ := List.getElem?_of_mem ha
    obtain ⟨a', r, h1, h2, h3⟩ := rows.get (i := i) (by rw [← rows.len]; exact (List.getElem?_eq_some_iff.mp hi).1)
    rw [hi] at h1
    cases h1
    show H a = some (.lst ((t.getD (fa.idxOf a) []).map V.int))
    rw [kp i a hi, getD_of h2]
    exact h3
  · refine List.ext_getElem? fun i => ?_
    rw [List.getElem?_map]
    by_cases q : i < fa.length
    · have h1 : fa[i]? = some fa[i] := List.getElem?_eq_getElem q
      have h2 : t[i]? = some (t[i]'(by rw [← rows.len]; exact q)) := List.getElem?_eq_getElem _
      rw [h1, Option.map_some, h2]
      show some (t.getD (fa.idxOf fa[i]) []) = _
      rw [kp i _ h1, getD_of h2]
    · rw [List.getElem?_eq_none (by omega), List.getElem?_eq_none (by rw [← rows.len]; omega)]; rfl
/-- a new list of new lists, as a comprehension makes it -/
theorem TabN.made {H H' : Hp} {p : Addr} {as : List Addr} {t : List (List Int)} (hp : H p = none) (h : H' p = some (.lst (as.map V.ref))) (l : as.length = t.length)
    (o : ∀ (n : Nat) (a : Addr), as[n]? = some a → (∃ o, H' a = some o ∧ o = .lst ((t.getD n []).map V.int)) ∧ H a = none ∧ a ≠ p) (nd : as.Nodup) : TabN H H' p t :=
  ⟨hp, as, h, ⟨l, fun i z r h1 h2 => by
    obtain ⟨_, h3, rfl⟩ := (o i z h1).1
    rw [getD_of h2] at h3
    exact h3⟩, fun z hz => by
    obtain ⟨i, hi⟩ := List.getElem?_of_mem hz
    exact (o i z hi).2, nd⟩
theorem TabN.tab {H H' : Hp} {p : Addr} {t : List (List Int)} (X : TabN H H' p t) : TabAt H' p t := by
  obtain ⟨as, h1, h2, _, _⟩ := X.ob
  exact ⟨as, h1, h2⟩
/-- the table that a comprehension in a comprehension makes -/
theorem tab_row {n : Nat} {f : Nat → Int} {r : List Int} (l : r.length = n) (h : ∀ i, i < n → r[i]? = some (f i)) : (List.range n).map (fun i => V.int (f i)) = r.map V.int := by
  rw [map_in]
  congr 1
  refine List.ext_getElem? fun i => ?_
  rw [List.getElem?_map]
  by_cases c : i < n
  · rw [List.getElem?_range c, h i c]; rfl
  · rw [List.getElem?_eq_none (by simp; omega), List.getElem?_eq_none (by omega)]; rfl
theorem comp_row {m z : List Int} : (List.range z.length).map (fun n => V.int (m.getD (z.getD n 0).toNat 0)) = (comp m z).map V.int := by
  refine tab_row (by unfold comp; rw [List.length_map]) fun i hi => ?_
  unfold comp
  rw [List.getElem?_map, List.getElem?_eq_getElem hi, getD_of (List.getElem?_eq_getElem hi)]; rfl
theorem tabOf_row {α : Type} [BEq α] {f : α → α → α} {l : List α} {p : α} {n : Nat} (h : l[n]? = some p) : (tabOf f l).getD n [] = l.map fun q => ((l.idxOf (f p q) : Nat) : Int) := getD_of (by unfold tabOf; rw [List.getElem?_map, h]; rfl)
end K10

set_option Elab.async false
set_option linter.all false
set_option maxRecDepth 100000
set_option maxHeartbeats 4000000
namespace K10
open PySem L2 Rd GT
local macro_rules | `(tactic| walk_at "st1") => `(tactic| with_reducible first
  | refine' Rd.seq ?_ | refine' Rd.nxt ?_ | refine' Rd.asg ?_ | refine' Rd.nm ?_ | refine' Rd.con ?_ | refine' Rd.op ?_ | refine' Rd.i0 ?_ | refine' Rd.un ?_ | refine' Rd.u0 ?_
  | refine' Rd.eqI ?_ | refine' Rd.neI ?_ | refine' Rd.eqB ?_ | refine' Rd.tst ?_ | refine' Rd.tB_ ?_ | refine' Rd.exb ?_ | refine' Rd.ifS ?_ | refine' Rd.ret ?_ | refine' Rd.retN ?_ | refine' Rd.drop ?_
  | refine' Rd.nil ?_ | refine' Rd.cons ?_ | refine' Rd.cb ?_ | refine' Rd.call ?_ | refine' Rd.callN ?_ | refine' Rd.andT ?_ | refine' Rd.orT ?_ | refine' Rd.notT ?_ | refine' Rd.andV ?_ | refine' Rd.orV ?_ | refine' Rd.notV ?_ | refine' Rd.chain ?_
  | refine' Rd.lst ?_ | refine' Rd.tup ?_ | refine' Rd.for_ ?_ | refine' Rd.rng1 ?_ | refine' Rd.rng2 ?_ | refine' Rd.itl ?_ | refine' Rd.itt ?_ | refine' Rd.sub ?_
  | refine' Rd.lrg ?_ | refine' Rd.rg1 ?_ | refine' Rd.rg2 ?_ | refine' Rd.exi ?_ | refine' Rd.exi2 ?_ | refine' Rd.int1 ?_ | refine' Rd.ex1 ?_ | refine' Rd.ex2 ?_
  | refine' Rd.fld ?_ | refine' Rd.sfld ?_ | refine' Rd.meth ?_ | refine' Rd.make ?_ | refine' Rd.lc ?_ | refine' Rd.bm ?_ | refine' Rd.bm0 ?_ | refine' Rd.bt ?_ | refine' Rd.enT ?_ | refine' Rd.enL ?_)
local macro_rules | `(tactic| walk_at "st") => `(tactic| repeat (first | walk_at "st1" | ((with_reducible refine' Rd.var ?hv ?_); (case hv => rfl))))
local macro_rules | `(tactic| walk_at "sj1") => `(tactic| with_reducible first
  | refine' Rd.seqA ?_ | refine' Rd.seqD ?_ | refine' Rd.seqF ?_ | refine' Rd.seqW ?_ | refine' Rd.nxt ?_ | refine' Rd.asg ?_ | refine' Rd.nm ?_ | refine' Rd.con ?_ | refine' Rd.op ?_ | refine' Rd.i0 ?_ | refine' Rd.un ?_ | refine' Rd.u0 ?_
  | refine' Rd.eqI ?_ | refine' Rd.neI ?_ | refine' Rd.eqB ?_ | refine' Rd.tst ?_ | refine' Rd.tB_ ?_ | refine' Rd.exb ?_ | refine' Rd.ifS ?_ | refine' Rd.ret ?_ | refine' Rd.retN ?_ | refine' Rd.drop ?_
  | refine' Rd.nil ?_ | refine' Rd.cons ?_ | refine' Rd.cb ?_ | refine' Rd.call ?_ | refine' Rd.callN ?_ | refine' Rd.andT ?_ | refine' Rd.orT ?_ | refine' Rd.notT ?_ | refine' Rd.andV ?_ | refine' Rd.orV ?_ | refine' Rd.notV ?_ | refine' Rd.chain ?_
  | refine' Rd.lst ?_ | refine' Rd.tup ?_ | refine' Rd.for_ ?_ | refine' Rd.rng1 ?_ | refine' Rd.rng2 ?_ | refine' Rd.itl ?_ | refine' Rd.itt ?_ | refine' Rd.sub ?_
  | refine' Rd.lrg ?_ | refine' Rd.rg1 ?_ | refine' Rd.rg2 ?_ | refine' Rd.exi ?_ | refine' Rd.exi2 ?_ | refine' Rd.int1 ?_ | refine' Rd.ex1 ?_ | refine' Rd.ex2 ?_
  | refine' Rd.fld ?_ | refine' Rd.sfld ?_ | refine' Rd.meth ?_ | refine' Rd.make ?_ | refine' Rd.lc ?_ | refine' Rd.bm ?_ | refine' Rd.bm0 ?_ | refine' Rd.bt ?_ | refine' Rd.enT ?_ | refine' Rd.enL ?_)
local macro_rules | `(tactic| walk_at "sj") => `(tactic| repeat (first | walk_at "sj1" | ((with_reducible refine' Rd.var ?hv ?_); (case hv => rfl))))
/-! ### subgroups and permutations -/
theorem PReach.rng {ps : List (List Int)} {n : Nat} (hp : ∀ p ∈ ps, p.Perm (rngI n)) {z : List Int} (h : PReach ps (rngI n) z) : z.length = n ∧ ∀ x ∈ z, 0 ≤ x ∧ x < (n : Int) := by
  induction h with
  | one => exact ⟨rngI_len n, fun x hx => rngI_mem.mp hx⟩
  | @step z p r hm ih =>
    have l := (hp p hm).length_eq
    rw [rngI_len] at l
    refine ⟨by unfold comp; rw [List.length_map]; exact ih.1, fun x hx => ?_⟩
    unfold comp at hx
    obtain ⟨y, hy, rfl⟩ := List.mem_map.mp hx
    obtain ⟨y0, y1⟩ := ih.2 y hy
    rw [getD_of (List.getElem?_eq_getElem (by omega : y.toNat < p.length))]
    exact rngI_mem.mp ((hp p hm).mem_iff.mp (List.getElem_mem _))
theorem SubG.self {t : List (List Int)} {ns ms : List Int} (G : Grp t) (S : SubG t ns ms) : SubG t ms ms := by
  refine ⟨S.in_ G, S.cl.asc, fun z => ⟨fun h => ?_, fun h => ?_⟩⟩
  · have := Reach.step (t := t) (ms := ms) Reach.zero h
    rw [show at2 t (0 : Int).toNat z.toNat = mi t 0 z from rfl, (G.mi_one (S.in_ G z h)).1] at this
    exact this
  · induction h with
    | zero => exact (S.cl.mem 0).mpr .zero
    | step _ hm ih => exact S.mul G _ ih _ hm
def sp_issub (K : PySem.W.Frag) : Sp := fun vs H Q _ => ∃ (g a : Addr) (t : List (List Int)) (ns ms : List Int), vs = [.ref g, .ref a] ∧ GrpAt (gC K) H g t ∧ H a = some (.lst (ms.map V.int)) ∧ SubG t ns ms ∧ ∀ H', Same H H' → Q (.bl true) H'
def sp_fol : Sp := fun vs H Q _ => ∃ (a b : Addr) (p q : List Int), vs = [.ref a, .ref b] ∧ H a = some (.lst (p.map V.int)) ∧ H b = some (.lst (q.map V.int)) ∧ p.length ≤ 1000 ∧ (∀ x ∈ p, 0 ≤ x ∧ x < (q.length : Int)) ∧ ∀ l H', H l = none → Same H H' → H' l = some (.lst ((comp q p).map V.int)) → Q (.ref l) H'
def sp_allp : Sp := fun vs H Q _ => ∃ (a e : Addr) (as : List Addr) (ps cs : List (List Int)) (n : Nat), vs = [.ref a, .ref e] ∧ H a = some (.lst (as.map V.ref)) ∧ Rows LstN H as ps ∧ H e = some (.lst ((rngI n).map V.int)) ∧ n ≤ 1000 ∧ (∀ p ∈ ps, p.Perm (rngI n)) ∧ PClosed ps (rngI n) cs ∧ cs.length ≤ 32 ∧
  ∀ l H', Same H H' → TabN (without e H) H' l cs → H l = none → Q (.ref l) H'
section
variable {P : Program} {w : World} {K : PySem.W.Frag} {mg : Str → Option Value} {base : Heap} {f : Addr} {fd : FuncData}
abbrev s_is_subgroup : Stmt := (top 15)
theorem sc_is_subgroup : FnScope ["group", "members"] ["group", "members"] (defScope s_is_subgroup) := ⟨rfl, rfl, rfl, by decide +kernel, rfl, by decide +kernel, by decide +kernel⟩
theorem ok_issub (F : FnP K "is_subgroup" "is_subgroup" s_is_subgroup f fd) (T : Txt K mg) (M_generated : MOk P w K mg base (L2.CX P w) (gC K) "generated" 2 ["self", "members"] (sp_gen K)) : FnOk P w K mg base CX0 3 f fd ["group", "members"] (sp_issub K) := by
  refine F.ok sc_is_subgroup (fun vs H Q E h => ?_) (fun cdv A outer s H vs Q E hr h => ?_)
  · obtain ⟨_, _, _, _, _, rfl, _⟩ := h; rfl
  obtain ⟨g, a, t, ns, ms, rfl, G, ha, S, k⟩ := h
  obtain ⟨dx, R, I, rs, hg, hR, hr_, hI⟩ := G.ob
  have C := SubG.self G.grp S
  refine ⟨_, PSs.nox (pss_one (ps_ret (pe_cmpR (Rk.eqD K rfl (un64 hr)) (methX M_generated (hr.mono (by decide)) (passN) (pv 0) (pa_cons (pv 1) pa_nil)) (pe_callTy (Rk.lis K) rfl T.list (by decide +kernel) (pa_cons (pv 1) pa_nil)) (nomark _)))), ?_⟩
  walk_at "st"
  refine ⟨g, dx, _, rfl, hg, lk_no (by decide +kernel) (by decide +kernel) (by decide +kernel) _ _ _, ?_⟩
  walk_at "st"
  refine ⟨g, a, t, ms, rfl, G, ha, fun _ l out H1 hc hl e1 hL => ?_, fun ig => absurd C.gen ig⟩
  have eo := hc.uniq C.cl
  subst eo
  walk_at "st"
  refine ⟨a, _, rfl, .inl (SqL.of (e1 _ _ ha)), fun l2 hl2 => ?_⟩
  have e2 := Rd.same_mk (o := .lst (out.map V.int)) hl2
  refine Rd.eqLL (SqL.of (e2 _ _ hL)) (SqL.of upd_same) ?_
  rw [decide_eq_true rfl]
  exact k _ (e1.trans e2)
abbrev s__followed : Stmt := (top 19)
theorem sc__followed : FnScope ["first", "second", "image"] ["first", "second"] (defScope s__followed) := ⟨rfl, rfl, rfl, by decide +kernel, rfl, by decide +kernel, by decide +kernel⟩
theorem ok_fol (F : FnP K "_followed" "_followed" s__followed f fd) (T : Txt K mg) : FnOk P w K mg base CX0 1 f fd ["first", "second"] sp_fol := by
  refine F.ok sc__followed (fun vs H Q E h => ?_) (fun cdv A outer s H vs Q E hr h => ?_)
  · obtain ⟨_, _, _, _, rfl, _⟩ := h; rfl
  obtain ⟨a, b, p, q, rfl, ha, hb, z, rg, k⟩ := h
  refine ⟨_, PSs.nox (pss_one (ps_ret (pe_lc (own := [("image", 2)]) rfl sc__followed.nd (Rk.pl K rfl (pv 0)) (blkOk_by (own := [("image", 2)]) (N := ["first", "second", "image"]) (sc := defScope s__followed) (by decide +kernel)) (fun _ _ _ _ _ => (pg_name (i := 2) sc__followed.nd rfl (Or.inl rfl))) (fun _ _ _ _ _ => pts_nil) (fun _ _ _ _ _ => (pe_ix (Rk.ixL K) (pv 1) (pv 2) (fun _ _ => rfl)))))), ?_⟩
  walk_at "st"
  refine Rd.itl' (SqL.of ha) ?_
  refine Rd.lcMap (fun n => .int (q.getD (p.getD n 0).toNat 0)) (Rd.src_list (SqL.of ha)) (by rw [List.length_map]; omega) (by intro _; rfl) (fun n y H1 Q1 hy e1 q1 => ?_) (fun l H1 hl e1 h1 => ?_)
  · obtain ⟨u, hu, rfl⟩ := intAt hy
    obtain ⟨u0, u1⟩ := rg u (List.mem_of_getElem? hu)
    rw [getD_of hu] at q1
    have hm2 : q[u.toNat]? = some q[u.toNat] := List.getElem?_eq_getElem (by omega)
    rw [getD_of hm2] at q1
    walk_at "st"
    refine Rd.ixL (SqL.of (e1 _ _ hb)) (at_of (j := u.toNat) (by omega) (map_get_int hm2)) ?_
    exact q1 _ (Same.refl _)
  · rw [List.length_map, comp_row] at h1
    exact k l H1 hl e1 h1
abbrev s__all_products : Stmt := (top 18)
theorem sc__all_products : FnScope ["permutations", "plain", "found", "at", "permutation", "product"] ["permutations", "plain"] (defScope s__all_products) := ⟨rfl, rfl, rfl, by decide +kernel, rfl, by decide +kernel, by decide +kernel⟩
theorem ok_allp (F : FnP K "_all_products" "_all_products" s__all_products f fd) (T : Txt K mg) (D__followed : DOk P w K mg base CX0 "_followed" 1 ["first", "second"] sp_fol) : FnOk P w K mg base CX0 2 f fd ["permutations", "plain"] sp_allp := by
  refine F.ok sc__all_products (fun vs H Q E h => ?_) (fun cdv A outer s H vs Q E hr h => ?_)
  · obtain ⟨_, _, _, _, _, _, rfl, _⟩ := h; rfl
  obtain ⟨a, e, as, ps, cs, n, rfl, ha, R, he, n1000, pp, C, c32, k⟩ := h
  obtain ⟨tL, g_LIMIT⟩ := T.LIMIT
  refine ⟨_, PSs.nox (pss_cons (ps_set (i := 2) sc__all_products.nd rfl (Or.inl rfl) (pe_lst (pa_cons (pv 1) pa_nil)))
  (pss_cons (ps_set (i := 3) sc__all_products.nd rfl (Or.inl rfl) pe_int)
  (pss_cons (ps_while PassesOwn.never (pt_cmpR op_lt (pv 3) (pe_callB (Rk.len K) rfl T.len PySem.boot_len (pa_cons (pv 2) pa_nil)) (nomark _))
  (pss_cons (ps_for PassesOwn.never rfl (Rk.pl K rfl (pv 0)) (pg_name (i := 4) sc__all_products.nd rfl (Or.inl rfl))
  (pss_cons (ps_set (i := 5) sc__all_products.nd rfl (Or.inl rfl) (callX D__followed (hr.mono (by decide)) (passN) (pa_cons (pe_ix (Rk.ixL K) (pv 2) (pv 3) (fun _ _ => rfl)) (pa_cons (pv 4) pa_nil))))
  (pss_one (ps_if (pt_cmpR (Rk.ninD K rfl (un65 hr)) (pv 5) (pv 2) (by with_unfolding_all rfl))
  (pss_cons (ps_if (pt_cmpR op_eq (pe_callB (Rk.len K) rfl T.len PySem.boot_len (pa_cons (pv 2) pa_nil)) (pe_glob (v := .int 32) rfl g_LIMIT ⟨_, rfl⟩) (nomark _))
  (pss_one ps_never)
  pss_nil)
  (pss_one (ps_expr (Rk.bm K rfl PySem.F.plainAttrs_list PySem.F.slot_list_append PySem.F.type_list_append mt_append (pv 2) (pa_cons (pv 5) pa_nil)))))
  pss_nil))))
  (pss_one (ps_set (i := 3) sc__all_products.nd rfl (Or.inl rfl) (pe_op op_add (pv 3) pe_int)))))
  (pss_one (ps_ret (pe_callB (Rk.sortLL K rfl (un8 hr)) rfl T.sorted (by decide +kernel) (pa_cons (pv 2) pa_nil))))))), ?_⟩
  have hrow : ∀ p ∈ ps, p.length = n := fun p hp => by have := (pp p hp).length_eq; rw [rngI_len] at this; exact this
  walk_at "st"
  refine ⟨(by decide : 1 ≤ sizeLine), fun fo hfo => ?_⟩
  have nef : e ≠ fo := ne_of_none he hfo
  have X0 : TabN (without e H) (upd H fo (.lst [.ref e])) fo [rngI n] := ⟨without_free hfo, [e], upd_same, ⟨rfl, fun i z r h1 h2 => by
    cases i with
    | zero =>
      cases h1
      cases h2
      unfold LstN
      rw [upd_ne nef]
      exact he
    | succ i => simp at h1⟩, fun z hz => by
    rw [List.mem_singleton.mp hz]
    exact ⟨without_at, nef⟩, by simp⟩
  have e0 : Same H (upd H fo (.lst [.ref e])) := Rd.same_mk hfo
  walk_at "st"
  refine ⟨fun m σ H' => ∃ (at_ : Nat) (fs : List (List Int)) (v4 v5 : Option V), σ = [some (.ref a), some (.ref e), some (.ref fo), some (.int (at_ : Nat)), v4, v5] ∧ Same H H' ∧ TabN (without e H) H' fo fs ∧
      PGen ps (rngI n) fs ∧ at_ ≤ fs.length ∧ (∀ j z, j < at_ → fs[j]? = some z → ∀ p ∈ ps, comp p z ∈ fs) ∧ m = cs.length - at_,
    ⟨_, 0, [rngI n], none, none, rfl, e0, X0, PGen.start ps _, Nat.zero_le _, fun j z h => by omega, rfl⟩, ?_⟩
  rintro m σ H' ⟨at_, fs, v4, v5, rfl, e1, X, G, hat, cl, rfl⟩
  obtain ⟨fa, f1, f2, f3, f4⟩ := X.ob
  have few := G.few C
  walk_at "st"
  refine Rd.len1 (.inl (SqL.of f1)) ?_
  walk_at "st"
  rw [List.length_map, f2.len]
  refine Rd.ite_d (fun c => ⟨_, fun _ _ h => h, ?_⟩) (fun c => ?_)
  · have hif : at_ < fs.length := by omega
    have hz : fs[at_]? = some fs[at_] := List.getElem?_eq_getElem hif
    generalize fs[at_] = z at hz
    walk_at "st"
    refine Rd.itl' (SqL.of (e1 _ _ ha)) ?_
    refine for_list (K := K) (a := a) (xs := as.map V.ref) (fun x σ H2 => ∃ (v4 v5 : Option V) (more : List (List Int)), σ = [some (.ref a), some (.ref e), some (.ref fo), some (.int (at_ : Nat)), v4, v5] ∧ Same H H2 ∧ TabN (without e H) H2 fo (fs ++ more) ∧ PGen ps (rngI n) (fs ++ more) ∧
        (∀ j p, j < x → ps[j]? = some p → comp p z ∈ fs ++ more))
      ⟨v4, v5, [], rfl, e1, by rw [List.append_nil]; exact X, by rw [List.append_nil]; exact G, fun j p h => by omega⟩ (fun x σ H2 _ ⟨_, _, _, _, e2, _⟩ => SqL.of (e2 _ _ ha)) ?_ ?_
    · rintro x y σ H2 hy ⟨v4, v5, more, rfl, e2, X2, G2, cl2⟩
      obtain ⟨ap, p, rfl, h1, h2, h3⟩ := R.at hy
      have pm := List.mem_of_getElem? h2
      obtain ⟨fa2, q1, q2, q3, q4⟩ := X2.ob
      have hz2 : (fs ++ more)[at_]? = some z := by rw [List.getElem?_append_left hif]; exact hz
      have zm2 := List.mem_of_getElem? hz2
      obtain ⟨zl, zr⟩ := PReach.rng pp (G2.re z zm2)
      obtain ⟨az, z', g1, g2, g3⟩ := q2.get (i := at_) (by rw [List.length_append]; omega)
      rw [hz2] at g2
      cases g2
      have few2 := G2.few C
      walk_at "st"
      refine Rd.ixL (SqL.of q1) (at_of (j := at_) (v := .ref az) rfl (by rw [List.getElem?_map, g1]; rfl)) ?_
      walk_at "st"
      refine ⟨az, ap, z, p, rfl, g3, e2 _ _ h3, by omega, fun x hx => by rw [hrow p pm]; exact zr x hx, fun l H3 hl e3 hL => ?_⟩
      have q13 := e3 _ _ q1
      have rows3 := q2.sameL e3
      walk_at "st"
      refine notInLL hL q13 rows3 ?_
      walk_at "st"
      have stay : ∀ (fs3 : List (List Int)), (∀ j m, j < x → ps[j]? = some m → comp m z ∈ fs3) → comp p z ∈ fs3 → ∀ j m', j < x + 1 → ps[j]? = some m' → comp m' z ∈ fs3 := by
        intro fs3 k1 k2 j m' hj hm'
        by_cases q : j < x
        · exact k1 j m' q hm'
        · rw [show j = x by omega, h2] at hm'
          cases hm'
          exact k2
      refine Rd.ite_n (fun no => ?_) (fun yes => ?_)
      · have room := G2.room C zm2 pm no
        walk_at "st"
        refine Rd.len1 (.inl (SqL.of q13)) ?_
        walk_at "st"
        rw [List.length_map, q2.len]
        refine Rd.ite_d (fun c => absurd c (by omega)) (fun _ => ?_)
        walk_at "st"
        refine Rd.tyL q13 ?_
        walk_at "st"
        refine Rd.app q13 (by rw [List.length_map, q2.len]; exact line_of (by omega)) ?_
        have X3 := X2.add q1 hl (without_free (Same.free e2 hl)) e3 hL
        rw [List.append_assoc] at X3
        rw [show List.map V.ref fa2 ++ [V.ref l] = (fa2 ++ [l]).map V.ref by rw [List.map_append]; rfl]
        walk_at "st"
        refine ⟨_, _, more ++ [comp p z], rfl, Rd.same_mut (e2.trans e3) hfo, X3, ?_, ?_⟩
        · rw [← List.append_assoc]; exact G2.add zm2 pm no
        · rw [← List.append_assoc]
          exact stay _ (fun j m' hj hm' => List.mem_append_left _ (cl2 j m' hj hm')) (List.mem_append_right _ (List.mem_singleton.mpr rfl))
      · walk_at "st"
        exact ⟨_, _, more, rfl, e2.trans e3, X2.on e3, G2, stay _ cl2 yes⟩
    · rintro σ H2 ⟨v4, v5, more, rfl, e2, X2, G2, cl2⟩
      have few2 := G2.few C
      rw [List.length_append] at few2
      walk_at "st"
      refine ⟨cs.length - (at_ + 1), by omega, at_ + 1, fs ++ more, v4, v5, rfl, e2, X2, G2, by rw [List.length_append]; omega, fun j y hj hy p hp => ?_, rfl⟩
      by_cases q : j < at_
      · rw [List.getElem?_append_left (by omega)] at hy
        exact List.mem_append_left _ (cl j y q hy p hp)
      · rw [show j = at_ by omega, List.getElem?_append_left hif, hz] at hy
        cases hy
        obtain ⟨x, hx, rfl⟩ := List.getElem_of_mem hp
        exact cl2 x _ (by rw [List.length_map, R.len]; exact hx) (List.getElem?_eq_getElem hx)
  · obtain ⟨bs, ky, b1, b2, b3, b4, b5, b6⟩ := X.keys
    walk_at "st"
    refine ⟨fo, bs, ky, rfl, SqL.of b1, b3, fun gs l perm srt hl => ?_⟩
    have ge : gs.map ky = cs := by
      refine C.sorted G.nd (G.done fun z hz p hp => ?_) (by have := perm.map ky; rw [b4] at this; exact this) (List.pairwise_map.mpr srt)
      obtain ⟨j, hj, rfl⟩ := List.getElem_of_mem hz
      exact cl j _ (by omega) (List.getElem?_eq_getElem hj) p hp
    have hl0 := Same.free e1 hl
    refine k l _ (Rd.same_add e1 hl) ⟨without_free hl0, gs, upd_same, ⟨by rw [← ge, List.length_map], fun i z r h1 h2 => ?_⟩, fun z hz => ?_, perm.nodup_iff.mpr b5⟩ hl0
    · rw [← ge, List.getElem?_map, h1] at h2
      cases h2
      have h3 := b3 z (perm.mem_iff.mp (List.mem_of_getElem? h1))
      unfold LstN
      rw [upd_ne (ne_of_none h3 hl)]
      exact h3
    · have hm := perm.mem_iff.mp hz
      exact ⟨b6 z hm, ne_of_none (b3 z hm) hl⟩
end
end K10

set_option Elab.async false
set_option linter.all false
set_option maxRecDepth 100000
set_option maxHeartbeats 4000000
namespace K10
open PySem L2 Rd GT
local macro_rules | `(tactic| walk_at "st1") => `(tactic| with_reducible first
  | refine' Rd.seq ?_ | refine' Rd.nxt ?_ | refine' Rd.asg ?_ | refine' Rd.nm ?_ | refine' Rd.con ?_ | refine' Rd.op ?_ | refine' Rd.i0 ?_ | refine' Rd.un ?_ | refine' Rd.u0 ?_
  | refine' Rd.eqI ?_ | refine' Rd.neI ?_ | refine' Rd.eqB ?_ | refine' Rd.tst ?_ | refine' Rd.tB_ ?_ | refine' Rd.exb ?_ | refine' Rd.ifS ?_ | refine' Rd.ret ?_ | refine' Rd.retN ?_ | refine' Rd.drop ?_
  | refine' Rd.nil ?_ | refine' Rd.cons ?_ | refine' Rd.cb ?_ | refine' Rd.call ?_ | refine' Rd.callN ?_ | refine' Rd.andT ?_ | refine' Rd.orT ?_ | refine' Rd.notT ?_ | refine' Rd.andV ?_ | refine' Rd.orV ?_ | refine' Rd.notV ?_ | refine' Rd.chain ?_
  | refine' Rd.lst ?_ | refine' Rd.tup ?_ | refine' Rd.for_ ?_ | refine' Rd.rng1 ?_ | refine' Rd.rng2 ?_ | refine' Rd.itl ?_ | refine' Rd.itt ?_ | refine' Rd.sub ?_
  | refine' Rd.lrg ?_ | refine' Rd.rg1 ?_ | refine' Rd.rg2 ?_ | refine' Rd.exi ?_ | refine' Rd.exi2 ?_ | refine' Rd.int1 ?_ | refine' Rd.ex1 ?_ | refine' Rd.ex2 ?_
  | refine' Rd.fld ?_ | refine' Rd.sfld ?_ | refine' Rd.meth ?_ | refine' Rd.make ?_ | refine' Rd.lc ?_ | refine' Rd.bm ?_ | refine' Rd.bm0 ?_ | refine' Rd.bt ?_ | refine' Rd.enT ?_ | refine' Rd.enL ?_)
local macro_rules | `(tactic| walk_at "st") => `(tactic| repeat (first | walk_at "st1" | ((with_reducible refine' Rd.var ?hv ?_); (case hv => rfl))))
local macro_rules | `(tactic| walk_at "sj1") => `(tactic| with_reducible first
  | refine' Rd.seqA ?_ | refine' Rd.seqD ?_ | refine' Rd.seqF ?_ | refine' Rd.seqW ?_ | refine' Rd.nxt ?_ | refine' Rd.asg ?_ | refine' Rd.nm ?_ | refine' Rd.con ?_ | refine' Rd.op ?_ | refine' Rd.i0 ?_ | refine' Rd.un ?_ | refine' Rd.u0 ?_
  | refine' Rd.eqI ?_ | refine' Rd.neI ?_ | refine' Rd.eqB ?_ | refine' Rd.tst ?_ | refine' Rd.tB_ ?_ | refine' Rd.exb ?_ | refine' Rd.ifS ?_ | refine' Rd.ret ?_ | refine' Rd.retN ?_ | refine' Rd.drop ?_
  | refine' Rd.nil ?_ | refine' Rd.cons ?_ | refine' Rd.cb ?_ | refine' Rd.call ?_ | refine' Rd.callN ?_ | refine' Rd.andT ?_ | refine' Rd.orT ?_ | refine' Rd.notT ?_ | refine' Rd.andV ?_ | refine' Rd.orV ?_ | refine' Rd.notV ?_ | refine' Rd.chain ?_
  | refine' Rd.lst ?_ | refine' Rd.tup ?_ | refine' Rd.for_ ?_ | refine' Rd.rng1 ?_ | refine' Rd.rng2 ?_ | refine' Rd.itl ?_ | refine' Rd.itt ?_ | refine' Rd.sub ?_
  | refine' Rd.lrg ?_ | refine' Rd.rg1 ?_ | refine' Rd.rg2 ?_ | refine' Rd.exi ?_ | refine' Rd.exi2 ?_ | refine' Rd.int1 ?_ | refine' Rd.ex1 ?_ | refine' Rd.ex2 ?_
  | refine' Rd.fld ?_ | refine' Rd.sfld ?_ | refine' Rd.meth ?_ | refine' Rd.make ?_ | refine' Rd.lc ?_ | refine' Rd.bm ?_ | refine' Rd.bm0 ?_ | refine' Rd.bt ?_ | refine' Rd.enT ?_ | refine' Rd.enL ?_)
local macro_rules | `(tactic| walk_at "sj") => `(tactic| repeat (first | walk_at "sj1" | ((with_reducible refine' Rd.var ?hv ?_); (case hv => rfl))))
/-! ### the groups that are made -/
abbrev cmp2 (p q : List Int) : List Int := comp q p
def sp_fp (K : PySem.W.Frag) : Sp := fun vs H Q _ => ∃ (a : Addr) (as : List Addr) (ps cs : List (List Int)) (n : Nat), vs = [.ref a, .int (n : Nat)] ∧ H a = some (.lst (as.map V.ref)) ∧ Rows LstN H as ps ∧ n ≤ 1000 ∧ (∀ p ∈ ps, p.Perm (rngI n)) ∧ PClosed ps (rngI n) cs ∧ cs.length ≤ 32 ∧ Grp (tabOf cmp2 cs) ∧
  ∀ r g l H', H r = none → Same H H' → H' r = some (.tup [.ref g, .ref l]) → GrpAt (gC K) H' g (tabOf cmp2 cs) → TabN H H' l cs → Q (.ref r) H'
def sp_sg (K : PySem.W.Frag) : Sp := fun vs H Q _ => ∃ (g a : Addr) (t : List (List Int)) (ns ms : List Int), vs = [.ref g, .ref a] ∧ GrpAt (gC K) H g t ∧ H a = some (.lst (ms.map V.int)) ∧ SubG t ns ms ∧
  ∀ r q l H', H r = none → Same H H' → H' r = some (.tup [.ref q, .ref l]) → GrpAt (gC K) H' q (tabOf (mi t) ms) → H l = none → H' l = some (.lst (ms.map V.int)) → Q (.ref r) H'
theorem indexI {K : PySem.W.Frag} {H : Hp} {Q : VK} {a : Addr} {r : List Int} {z : Int} (h : SqL K H a (r.map V.int)) (m : z ∈ r) (q : Q (.int (r.idxOf z : Nat)) H) : rIndex K (.ref a) [.int z] H Q := by
  have h1 : r.idxOf z < r.length := List.idxOf_lt_length_of_mem m
  have w1 : r[r.idxOf z]? = some z := by
    rw [List.getElem?_eq_getElem h1]
    exact congrArg some (List.getElem_idxOf h1)
  refine ⟨a, r.map V.int, .int z, r.idxOf z, .int z, rfl, rfl, h, rfl, flat_ints r, map_get_int w1, by simp [eqV], fun k y hk hy => ?_, q⟩
  obtain ⟨u, hu, rfl⟩ := intAt hy
  have : u ≠ z := fun e => by
    have h3 := List.not_of_lt_findIdx (p := fun x => x == z) (xs := r) (i := k) hk
    rw [(List.getElem?_eq_some_iff.mp hu).2] at h3
    simp [e] at h3
  simp [eqV, this]
section
variable {P : Program} {w : World} {K : PySem.W.Frag} {mg : Str → Option Value} {base : Heap} {f : Addr} {fd : FuncData}
theorem sort_rng {p z : List Int} {n : Nat} (h : p.Perm (rngI n)) (h2 : z.Perm p) (s : z.Pairwise (· ≤ ·)) : z = rngI n := by
  refine (h2.trans h).eq_of_pairwise (le := fun a b => a ≤ b) (fun x y _ _ h3 h4 => Int.le_antisymm h3 h4) s ?_
  unfold rngI
  rw [List.pairwise_map]
  exact List.pairwise_lt_range.imp fun {a b} h => by omega
abbrev s_from_permutations : Stmt := (top 17)
theorem sc_from_permutations : FnScope ["permutations", "points", "plain", "permutation", "collected", "table", "q", "p"] ["permutations", "points"] (defScope s_from_permutations) := ⟨rfl, rfl, rfl, by decide +kernel, rfl, by decide +kernel, by decide +kernel⟩
theorem ok_fp (F : FnP K "from_permutations" "from_permutations" s_from_permutations f fd) (T : Txt K mg) (D__followed : DOk P w K mg base CX0 "_followed" 1 ["first", "second"] sp_fol) (D__all_products : DOk P w K mg base CX0 "_all_products" 2 ["permutations", "plain"] sp_allp)
    (D_Group : KOk P w K mg base (L2.CX P w) "Group" (gC K) 2 ["self", "table"] (sp_init K)) : FnOk P w K mg base CX0 4 f fd ["permutations", "points"] (sp_fp K) := by
  refine F.ok sc_from_permutations (fun vs H Q E h => ?_) (fun cdv A outer s H vs Q E hr h => ?_)
  · obtain ⟨_, _, _, _, _, rfl, _⟩ := h; rfl
  obtain ⟨a, as, ps, cs, n, rfl, ha, R, n1000, pp, C, c32, GG, k⟩ := h
  refine ⟨_, PSs.nox (pss_cons (ps_set (i := 2) sc_from_permutations.nd rfl (Or.inl rfl) (pe_listRg rfl rfl T.list (prg_1 rfl T.range (pv 1))))
  (pss_cons (ps_for PassesOwn.never rfl (Rk.pl K rfl (pv 0)) (pg_name (i := 3) sc_from_permutations.nd rfl (Or.inl rfl))
  (pss_one (ps_if (pt_cmpR (Rk.neD K rfl (un64 hr)) (pe_callB (Rk.sortI K) rfl T.sorted (by decide +kernel) (pa_cons (pv 3) pa_nil)) (pv 2) (nomark _))
  (pss_one ps_never)
  pss_nil)))
  (pss_cons (ps_set (i := 4) sc_from_permutations.nd rfl (Or.inr rfl) (callX D__all_products (hr.mono (by decide)) (passN) (pa_cons (pv 0) (pa_cons (pv 2) pa_nil))))
  (pss_cons (ps_setLc (i := 5) (own := [("p", 7)]) rfl sc_from_permutations.nd rfl rfl (sw_true rfl rfl rfl (by decide +kernel)) (Rk.pl K rfl (pv 4)) (blkOk_by (own := [("p", 7)]) (N := ["permutations", "points", "plain", "permutation", "collected", "table", "q", "p"]) (sc := defScope s_from_permutations) (by decide +kernel)) (fun _ _ _ _ _ => (pg_name (i := 7) sc_from_permutations.nd rfl (Or.inr rfl))) (fun _ _ _ _ _ => pts_nil) (fun _ _ _ _ _ => (pe_lc (own := [("q", 6)]) rfl sc_from_permutations.nd (Rk.pl K rfl (pv 4)) (blkOk_by (own := [("q", 6)]) (N := ["permutations", "points", "plain", "permutation", "collected", "table", "q", "p"]) (sc := (relS { kind := .function, names := [(".0", .local), ("p", .cell), ("collected", .free)], isGenerator := false, isCoroutine := false } (defScope s_from_permutations))) (by decide +kernel)) (fun _ _ _ _ _ => (pg_name (i := 6) sc_from_permutations.nd rfl (Or.inl rfl))) (fun _ _ _ _ _ => pts_nil) (fun _ _ _ _ _ => (Rk.bm K rfl PySem.F.plainAttrs_list PySem.F.slot_list_index PySem.F.type_list_index (Rk.indexD K rfl (un65 hr)) (pv 4) (pa_cons (callX D__followed (hr.mono (by decide)) (passN) (pa_cons (pv 7) (pa_cons (pv 6) pa_nil))) pa_nil))))))
  (pss_one (ps_ret (pe_tup (pa_cons (makeX D_Group (hr.mono (by decide)) (passN) (pa_cons (pv 5) pa_nil)) (pa_cons (pv 4) pa_nil))))))))), ?_⟩
  walk_at "st"
  refine ⟨⟨by decide, by decide, by omega, by omega, by omega⟩, fun pl hpl => ?_⟩
  have hP : (upd H pl (.lst (rgV 0 (n : Int)))) pl = some (.lst ((rngI n).map V.int)) := by rw [upd_same, rgV_eq]; rfl
  have e1 : Same H (upd H pl (.lst (rgV 0 (n : Int)))) := Rd.same_mk hpl
  generalize upd H pl (.lst (rgV 0 (n : Int))) = H1 at hP e1
  walk_at "st"
  refine Rd.itl' (SqL.of (e1 _ _ ha)) ?_
  refine for_list (K := K) (a := a) (xs := as.map V.ref) (fun i σ H' => ∃ (v : Option V), σ = [some (.ref a), some (.int (n : Nat)), some (.ref pl), v, none, none, none, none] ∧ Same H1 H')
    ⟨none, rfl, Same.refl _⟩ (fun i σ H' _ ⟨_, _, e⟩ => SqL.of (e _ _ (e1 _ _ ha))) ?_ ?_
  · rintro i x σ H2 hx ⟨v, rfl, e2⟩
    obtain ⟨ap, p, rfl, h1, h2, h3⟩ := R.at hx
    have h4 := e2 _ _ (e1 _ _ h3)
    walk_at "st"
    refine ⟨ap, p, rfl, SqL.of h4, fun z l hz hs hl => ?_⟩
    have ez := sort_rng (pp p (List.mem_of_getElem? h2)) hz hs
    subst ez
    have e3 := Rd.same_mk (o := .lst ((rngI n).map V.int)) hl
    walk_at "st"
    refine Rd.neLL (SqL.of upd_same) (SqL.of (e3 _ _ (e2 _ _ hP))) ?_
    walk_at "st"
    refine Rd.ite_n (fun c => absurd rfl c) (fun _ => ?_)
    walk_at "st"
    exact ⟨_, rfl, e2.trans e3⟩
  · rintro σ H2 ⟨v, rfl, e2⟩
    have e12 := e1.trans e2
    walk_at "st"
    refine ⟨a, pl, as, ps, cs, n, rfl, e12 _ _ ha, R.sameL e12, e2 _ _ hP, n1000, pp, C, c32, fun l H3 e3 X hl0 => ?_⟩
    have e13 := e12.trans e3
    have XH : TabN H H3 l cs := X.sub fun b o h => by
      unfold without
      rw [if_neg (ne_of_none h hpl)]
      exact e12 _ _ h
    obtain ⟨fa, f1, rows, f3, f4⟩ := XH.ob
    have hrow : ∀ z ∈ cs, z.length = n ∧ ∀ x ∈ z, 0 ≤ x ∧ x < (n : Int) := fun z hz => PReach.rng pp ((C.mem z).mp hz)
    have clo : ∀ x ∈ cs, ∀ y ∈ cs, comp y x ∈ cs := by
      intro x hx y hy
      have lx := hrow x hx
      obtain ⟨i, hi, rfl⟩ := List.getElem_of_mem hx
      obtain ⟨j, hj, rfl⟩ := List.getElem_of_mem hy
      have hm : ((cs.idxOf (comp cs[j] cs[i]) : Nat) : Int) < (cs.length : Int) := by
        have hm := (GG.sq.at (x := i) (y := j) (by rw [tabOf_len]; exact hi) (by rw [tabOf_len]; exact hj)).2.1
        rw [tabOf_at hi hj, tabOf_len] at hm
        exact hm
      exact List.idxOf_lt_length_iff.mp (by omega)
    walk_at "st"
    refine Rd.itl' (SqL.of f1) ?_
    refine Rd.lcNew (fun i o => o = .lst (((tabOf cmp2 cs).getD i []).map V.int)) (Rd.src_list (SqL.of f1)) (by rw [List.length_map, rows.len]; omega) (by intro _; rfl) (fun i y H4 Q1 hy e4 q1 => ?_) (fun tb ra H4 htb e4 h6 lra hra nd => ?_)
    · obtain ⟨az, z, rfl, g1, g2, g3⟩ := rows.at hy
      have zm := List.mem_of_getElem? g2
      obtain ⟨zl, zr⟩ := hrow z zm
      rw [tabOf_row (f := cmp2) g2] at q1
      walk_at "st"
      refine Rd.itl' (SqL.of (e4 _ _ f1)) ?_
      refine Rd.lcMap (fun j => .int ((cs.idxOf (comp (cs.getD j []) z) : Nat) : Int)) (Rd.src_list (SqL.of (e4 _ _ f1))) (by rw [List.length_map, rows.len]; omega) (by intro _; rfl) (fun j y H5 Q2 hy2 e5 q2 => ?_) (fun rp H5 hrp e5 h9 => ?_)
      · obtain ⟨aq, q, rfl, k1, k2, k3⟩ := rows.at hy2
        have qm := List.mem_of_getElem? k2
        obtain ⟨ql, qr⟩ := hrow q qm
        rw [getD_of k2] at q2
        have e6 := e4.trans e5
        walk_at "st"
        refine Rd.tyL (e6 _ _ f1) ?_
        walk_at "st"
        refine ⟨az, aq, z, q, rfl, e6 _ _ g3, e6 _ _ k3, by omega, fun x hx => by rw [ql]; exact zr x hx, fun l2 H6 hl2 e7 hL => ?_⟩
        refine indexLL hL (e7 _ _ (e6 _ _ f1)) (rows.sameL (e6.trans e7)) (clo z zm q qm) ?_
        exact q2 _ e7
      · refine q1 rp _ _ hrp e5 h9 ?_
        rw [List.length_map, rows.len]
        congr 1
        refine tab_row (by rw [List.length_map]) fun j hj => ?_
        rw [List.getElem?_map, List.getElem?_eq_getElem hj, getD_of (List.getElem?_eq_getElem hj)]; rfl
    · have XT : TabN H3 H4 tb (tabOf cmp2 cs) := TabN.made htb h6 (by rw [lra, List.length_map, rows.len, tabOf_len]) hra nd
      obtain ⟨ta, t1, trows, t3, t4⟩ := XT.ob
      have X4 := XH.on e4
      have e14 := e13.trans e4
      have tl : (tabOf cmp2 cs).length ≤ 32 := by rw [tabOf_len]; exact c32
      walk_at "st"
      intro g dx hg hdx ndx
      have e5 : Same H4 (upd (upd H4 dx (.own g)) g (.ins (gC K) dx [])) := (Rd.same_mk hdx).trans (Rd.same_mk (by rw [upd_ne ndx.symm]; exact hg))
      have hgi : (upd (upd H4 dx (.own g)) g (.ins (gC K) dx [])) g = some (.ins (gC K) dx []) := upd_same
      generalize upd (upd H4 dx (.own g)) g (.ins (gC K) dx []) = H5 at e5 hgi
      refine ⟨g, dx, tb, ta, _, rfl, hgi, e5 _ _ t1, trows.sameL e5, by omega, fun h => absurd h (by omega), fun _ nG => absurd GG nG, fun _ _ H6 e6 GA => ⟨rfl, ?_⟩⟩
      have e7 : Same H4 H6 := fun c o h => e6 c o (fun z => by rw [z, hg] at h; cases h) (e5 c o h)
      have e17 := e14.trans e7
      walk_at "st"
      refine ⟨line2, fun r hr2 => ?_⟩
      exact k r g l _ (Same.free e17 hr2) (e17.trans (Rd.same_mk hr2)) upd_same (GA.same (Rd.same_mk hr2)) ((X4.on e7).on (Rd.same_mk hr2))
abbrev s_subgroup_as_group : Stmt := (top 20)
theorem sc_subgroup_as_group : FnScope ["group", "members", "inclusion", "table", "y", "x"] ["group", "members"] (defScope s_subgroup_as_group) := ⟨rfl, rfl, rfl, by decide +kernel, rfl, by decide +kernel, by decide +kernel⟩
theorem ok_sg (F : FnP K "subgroup_as_group" "subgroup_as_group" s_subgroup_as_group f fd) (T : Txt K mg) (D_is_subgroup : DOk P w K mg base CX0 "is_subgroup" 3 ["group", "members"] (sp_issub K))
    (D_Group : KOk P w K mg base (L2.CX P w) "Group" (gC K) 2 ["self", "table"] (sp_init K)) : FnOk P w K mg base CX0 4 f fd ["group", "members"] (sp_sg K) := by
  refine F.ok sc_subgroup_as_group (fun vs H Q E h => ?_) (fun cdv A outer s H vs Q E hr h => ?_)
  · obtain ⟨_, _, _, _, _, rfl, _⟩ := h; rfl
  obtain ⟨g, a, t, ns, ms, rfl, G, ha, S, k⟩ := h
  have g32 := G.le
  have mle := S.le G.grp
  have GG := S.grp G.grp
  refine ⟨_, PSs.nox (pss_cons (ps_if (pt_not (pt_val (callX D_is_subgroup (hr.mono (by decide)) (passN) (pa_cons (pv 0) (pa_cons (pv 1) pa_nil)))))
  (pss_one ps_never)
  pss_nil)
  (pss_cons (ps_set (i := 2) sc_subgroup_as_group.nd rfl (Or.inr rfl) (pe_callTy (Rk.lis K) rfl T.list (by decide +kernel) (pa_cons (pv 1) pa_nil)))
  (pss_cons (ps_setLc (i := 3) (own := [("x", 5)]) rfl sc_subgroup_as_group.nd rfl rfl (sw_true rfl rfl rfl (by decide +kernel)) (Rk.pl K rfl (pv 2)) (blkOk_by (own := [("x", 5)]) (N := ["group", "members", "inclusion", "table", "y", "x"]) (sc := defScope s_subgroup_as_group) (by decide +kernel)) (fun _ _ _ _ _ => (pg_name (i := 5) sc_subgroup_as_group.nd rfl (Or.inr rfl))) (fun _ _ _ _ _ => pts_nil) (fun _ _ _ _ _ => (pe_lc (own := [("y", 4)]) rfl sc_subgroup_as_group.nd (Rk.pl K rfl (pv 2)) (blkOk_by (own := [("y", 4)]) (N := ["group", "members", "inclusion", "table", "y", "x"]) (sc := (relS { kind := .function, names := [(".0", .local), ("x", .cell), ("group", .free), ("inclusion", .free)], isGenerator := false, isCoroutine := false } (defScope s_subgroup_as_group))) (by decide +kernel)) (fun _ _ _ _ _ => (pg_name (i := 4) sc_subgroup_as_group.nd rfl (Or.inl rfl))) (fun _ _ _ _ _ => pts_nil) (fun _ _ _ _ _ => (Rk.bm K rfl PySem.F.plainAttrs_list PySem.F.slot_list_index PySem.F.type_list_index (Rk.index K) (pv 2) (pa_cons (pe_ix (Rk.ixT K) (pe_ix (Rk.ixT K) (Rk.fld K rfl (pv 0) rfl) (pv 5) (fun _ _ => rfl)) (pv 4) (fun _ _ => rfl)) pa_nil))))))
  (pss_one (ps_ret (pe_tup (pa_cons (makeX D_Group (hr.mono (by decide)) (passN) (pa_cons (pv 3) pa_nil)) (pa_cons (pv 2) pa_nil)))))))), ?_⟩
  walk_at "st"
  refine ⟨g, a, t, ns, ms, rfl, G, ha, S, fun H1 e1 => ?_⟩
  walk_at "st"
  refine (if_neg Bool.false_ne_true).mpr ?_
  walk_at "st"
  refine ⟨a, _, rfl, .inl (SqL.of (e1 _ _ ha)), fun l hl => ?_⟩
  have e2 : Same H1 (upd H1 l (.lst (ms.map V.int))) := Rd.same_mk hl
  have hL : (upd H1 l (.lst (ms.map V.int))) l = some (.lst (ms.map V.int)) := upd_same
  generalize upd H1 l (.lst (ms.map V.int)) = H2 at e2 hL
  have e12 := e1.trans e2
  obtain ⟨dx, R, I, rs, hg, hR, hr_, hI⟩ := (G.same e12).ob
  walk_at "st"
  refine Rd.itl' (SqL.of hL) ?_
  refine Rd.lcNew (fun i o => o = .lst (((tabOf (mi t) ms).getD i []).map V.int)) (Rd.src_list (SqL.of hL)) (by rw [List.length_map]; omega) (by intro _; rfl) (fun i y H4 Q1 hy e4 q1 => ?_) (fun tb ra H4 htb e4 h6 lra hra nd => ?_)
  · obtain ⟨x, hx, rfl⟩ := intAt hy
    have xm := List.mem_of_getElem? hx
    obtain ⟨x0, x1⟩ := S.in_ G.grp x xm
    rw [tabOf_row (f := mi t) hx] at q1
    walk_at "st"
    refine Rd.itl' (SqL.of (e4 _ _ hL)) ?_
    refine Rd.lcMap (fun j => .int ((ms.idxOf (mi t x (ms.getD j 0)) : Nat) : Int)) (Rd.src_list (SqL.of (e4 _ _ hL))) (by rw [List.length_map]; omega) (by intro _; rfl) (fun j y H5 Q2 hy2 e5 q2 => ?_) (fun rp H5 hrp e5 h9 => ?_)
    · obtain ⟨y, hy, rfl⟩ := intAt hy2
      have ym := List.mem_of_getElem? hy
      obtain ⟨y0, y1⟩ := S.in_ G.grp y ym
      rw [getD_of hy] at q2
      have e6 := e4.trans e5
      obtain ⟨ax, rx, k1, k2, k3⟩ := hr_.get (i := x.toNat) (by omega)
      obtain ⟨_, _, r', w1, w2⟩ := G.grp.sq.at (x := x.toNat) (y := y.toNat) (by omega) (by omega)
      rw [k2] at w1
      cases w1
      walk_at "st"
      refine Rd.tyL (e6 _ _ hL) ?_
      walk_at "st"
      refine Rd.fld' (e6 _ _ hg) T.cl T.nR (lk_rows _ _ _) ?_
      walk_at "st"
      refine Rd.ixT (hR.same e6).sq (at_of (j := x.toNat) (v := .ref ax) (by omega) (by rw [List.getElem?_map, k1]; rfl)) ?_
      walk_at "st"
      refine Rd.ixT (k3.same e6).sq (at_of (j := y.toNat) (v := .int (mi t x y)) (by omega) (by rw [List.getElem?_map, w2]; rfl)) ?_
      exact indexI (SqL.of (e6 _ _ hL)) (S.mul G.grp x xm y ym) (q2 _ (Same.refl _))
    · refine q1 rp _ _ hrp e5 h9 ?_
      rw [List.length_map]
      congr 1
      refine tab_row (by rw [List.length_map]) fun j hj => ?_
      rw [List.getElem?_map, List.getElem?_eq_getElem hj, getD_of (List.getElem?_eq_getElem hj)]; rfl
  · have XT : TabN H2 H4 tb (tabOf (mi t) ms) := TabN.made htb h6 (by rw [lra, List.length_map, tabOf_len]) hra nd
    obtain ⟨ta, t1, trows, t3, t4⟩ := XT.ob
    have e14 := e12.trans e4
    have tl : (tabOf (mi t) ms).length ≤ 32 := by rw [tabOf_len]; omega
    walk_at "st"
    intro q dx hg hdx ndx
    have e5 : Same H4 (upd (upd H4 dx (.own q)) q (.ins (gC K) dx [])) := (Rd.same_mk hdx).trans (Rd.same_mk (by rw [upd_ne ndx.symm]; exact hg))
    have hgi : (upd (upd H4 dx (.own q)) q (.ins (gC K) dx [])) q = some (.ins (gC K) dx []) := upd_same
    generalize upd (upd H4 dx (.own q)) q (.ins (gC K) dx []) = H5 at e5 hgi
    refine ⟨q, dx, tb, ta, _, rfl, hgi, e5 _ _ t1, trows.sameL e5, by omega, fun h => absurd h (by omega), fun _ nG => absurd GG nG, fun _ _ H6 e6 GA => ⟨rfl, ?_⟩⟩
    have e7 : Same H4 H6 := fun c o h => e6 c o (fun z => by rw [z, hg] at h; cases h) (e5 c o h)
    have e17 := e14.trans e7
    walk_at "st"
    refine ⟨line2, fun r hr2 => ?_⟩
    refine k r q l _ (Same.free e17 hr2) (e17.trans (Rd.same_mk hr2)) upd_same (GA.same (Rd.same_mk hr2)) (Same.free e1 hl) ?_
    exact (Rd.same_mk hr2) _ _ (e7 _ _ (e4 _ _ hL))
end
end K10

set_option Elab.async false
set_option linter.all false
set_option maxRecDepth 100000
set_option maxHeartbeats 4000000
namespace K10
open PySem L2 Rd GT
local macro_rules | `(tactic| walk_at "st1") => `(tactic| with_reducible first
  | refine' Rd.seq ?_ | refine' Rd.nxt ?_ | refine' Rd.asg ?_ | refine' Rd.nm ?_ | refine' Rd.con ?_ | refine' Rd.op ?_ | refine' Rd.i0 ?_ | refine' Rd.un ?_ | refine' Rd.u0 ?_
  | refine' Rd.eqI ?_ | refine' Rd.neI ?_ | refine' Rd.eqB ?_ | refine' Rd.tst ?_ | refine' Rd.tB_ ?_ | refine' Rd.exb ?_ | refine' Rd.ifS ?_ | refine' Rd.ret ?_ | refine' Rd.retN ?_ | refine' Rd.drop ?_
  | refine' Rd.nil ?_ | refine' Rd.cons ?_ | refine' Rd.cb ?_ | refine' Rd.call ?_ | refine' Rd.callN ?_ | refine' Rd.andT ?_ | refine' Rd.orT ?_ | refine' Rd.notT ?_ | refine' Rd.andV ?_ | refine' Rd.orV ?_ | refine' Rd.notV ?_ | refine' Rd.chain ?_
  | refine' Rd.lst ?_ | refine' Rd.tup ?_ | refine' Rd.for_ ?_ | refine' Rd.rng1 ?_ | refine' Rd.rng2 ?_ | refine' Rd.itl ?_ | refine' Rd.itt ?_ | refine' Rd.sub ?_
  | refine' Rd.lrg ?_ | refine' Rd.rg1 ?_ | refine' Rd.rg2 ?_ | refine' Rd.exi ?_ | refine' Rd.exi2 ?_ | refine' Rd.int1 ?_ | refine' Rd.ex1 ?_ | refine' Rd.ex2 ?_
  | refine' Rd.fld ?_ | refine' Rd.sfld ?_ | refine' Rd.meth ?_ | refine' Rd.make ?_ | refine' Rd.lc ?_ | refine' Rd.bm ?_ | refine' Rd.bm0 ?_ | refine' Rd.bt ?_ | refine' Rd.enT ?_ | refine' Rd.enL ?_)
local macro_rules | `(tactic| walk_at "st") => `(tactic| repeat (first | walk_at "st1" | ((with_reducible refine' Rd.var ?hv ?_); (case hv => rfl))))
local macro_rules | `(tactic| walk_at "sj1") => `(tactic| with_reducible first
  | refine' Rd.seqA ?_ | refine' Rd.seqD ?_ | refine' Rd.seqF ?_ | refine' Rd.seqW ?_ | refine' Rd.nxt ?_ | refine' Rd.asg ?_ | refine' Rd.nm ?_ | refine' Rd.con ?_ | refine' Rd.op ?_ | refine' Rd.i0 ?_ | refine' Rd.un ?_ | refine' Rd.u0 ?_
  | refine' Rd.eqI ?_ | refine' Rd.neI ?_ | refine' Rd.eqB ?_ | refine' Rd.tst ?_ | refine' Rd.tB_ ?_ | refine' Rd.exb ?_ | refine' Rd.ifS ?_ | refine' Rd.ret ?_ | refine' Rd.retN ?_ | refine' Rd.drop ?_
  | refine' Rd.nil ?_ | refine' Rd.cons ?_ | refine' Rd.cb ?_ | refine' Rd.call ?_ | refine' Rd.callN ?_ | refine' Rd.andT ?_ | refine' Rd.orT ?_ | refine' Rd.notT ?_ | refine' Rd.andV ?_ | refine' Rd.orV ?_ | refine' Rd.notV ?_ | refine' Rd.chain ?_
  | refine' Rd.lst ?_ | refine' Rd.tup ?_ | refine' Rd.for_ ?_ | refine' Rd.rng1 ?_ | refine' Rd.rng2 ?_ | refine' Rd.itl ?_ | refine' Rd.itt ?_ | refine' Rd.sub ?_
  | refine' Rd.lrg ?_ | refine' Rd.rg1 ?_ | refine' Rd.rg2 ?_ | refine' Rd.exi ?_ | refine' Rd.exi2 ?_ | refine' Rd.int1 ?_ | refine' Rd.ex1 ?_ | refine' Rd.ex2 ?_
  | refine' Rd.fld ?_ | refine' Rd.sfld ?_ | refine' Rd.meth ?_ | refine' Rd.make ?_ | refine' Rd.lc ?_ | refine' Rd.bm ?_ | refine' Rd.bm0 ?_ | refine' Rd.bt ?_ | refine' Rd.enT ?_ | refine' Rd.enL ?_)
local macro_rules | `(tactic| walk_at "sj") => `(tactic| repeat (first | walk_at "sj1" | ((with_reducible refine' Rd.var ?hv ?_); (case hv => rfl))))
/-- what the law asks of the class Group -/
structure Txt4 (K : PySem.W.Frag) (mg : Str → Option Value) : Prop where
  g_Group : mg "Group" = some (.ref (He.ga K "Group"))
  ha : PySem.W.findIn K (.ref (He.ga K "Group")) "__class__" = some (some (.builtin "object.__class__"))
  hn : PySem.W.specialIn K (.builtin "object.__class__") "__get__" = some (some (.builtin "getset_descriptor.__get__"))
  htk : PySem.W.takesIn K (.builtin "object.__class__") = some true
  hm : PySem.W.mroIn K (He.ga K "Group") (.type "object") = some true
  gg : PySem.W.kitOne K (.ref (He.ga K "Group")) (.ref (He.ga K "Group")) = some true
def sp_eq (K : PySem.W.Frag) : Sp := fun vs H Q _ => ∃ (a b : Addr) (t u : List (List Int)), vs = [.ref a, .ref b] ∧ GrpAt (gC K) H a t ∧ GrpAt (gC K) H b u ∧ Q (.bl (decide (t = u))) H
section
variable {P : Program} {w : World} {K : PySem.W.Frag} {mg : Str → Option Value} {base : Heap} {f : Addr} {fd : FuncData}
abbrev s_Group___eq__ : Stmt := (inClass (top 9) 1)
theorem sc_Group___eq__ : FnScope ["self", "other"] ["self", "other"] (defScope s_Group___eq__) := ⟨rfl, rfl, rfl, by decide +kernel, rfl, by decide +kernel, by decide +kernel⟩
theorem ok_eq (F : FnP K "__eq__" "Group.__eq__" s_Group___eq__ f fd) (T : Txt K mg) (T4 : Txt4 K mg) : FnOk P w K mg base CX0 1 f fd ["self", "other"] (sp_eq K) := by
  refine F.ok sc_Group___eq__ (fun vs H Q E h => ?_) (fun cdv A outer s H vs Q E hr h => ?_)
  · obtain ⟨_, _, _, _, rfl, _⟩ := h; rfl
  obtain ⟨a, b, t, u, rfl, G, G2, k⟩ := h
  obtain ⟨dx, R, I, rs, hg, hR, hr_, hI⟩ := G.ob
  obtain ⟨dx2, R2, I2, rs2, hg2, hR2, hr2, hI2⟩ := G2.ob
  refine ⟨_, PSs.nox (pss_one (ps_ret (pe_and (pe_callB (Rk.isi K) rfl T.isinstance (by decide +kernel) (pa_cons (pv 1) (pa_cons (pe_glob (v := .ref (He.ga K "Group")) rfl T4.g_Group rfl) pa_nil))) (pe_one (pe_cmpR (Rk.eqD K rfl (un64 hr)) (Rk.fld K rfl (pv 0) rfl) (Rk.fld K rfl (pv 1) rfl) (nomark _)))))), ?_⟩
  walk_at "st"
  refine ⟨.ref b, .ref (gC K), .ref (gC K), .ref (gC K), true, rfl, ?_, .base (.ins hg2 T.cl T4.ha T4.hn T4.htk T4.hm), T4.gg, ?_⟩
  · exact .own _
  walk_at "st"
  refine (if_pos rfl).mpr ?_
  walk_at "st"
  refine Rd.fld' hg T.cl T.nR (lk_rows _ _ _) ?_
  walk_at "st"
  refine Rd.fld' hg2 T.cl T.nR (lk_rows _ _ _) ?_
  exact eqTab hR hr_ hR2 hr2 k
end
/-! ### the law's helpers -/
def sp_wid : Sp := fun vs H Q _ => ∃ (a : Addr) (r : List Int) (b h : Nat), vs = [.ref a, .int (b : Nat), .int (h : Nat)] ∧ H a = some (.lst (r.map V.int)) ∧ r.length ≤ 1000 ∧ b ≤ 1000 ∧ h ≤ 1000 ∧ ∀ l H', H l = none → Same H H' → H' l = some (.lst ((widen b h r).map V.int)) → Q (.ref l) H'
def sp_pair (K : PySem.W.Frag) : Sp := fun vs H Q _ => ∃ (r g l tb du : Addr) (t : List (List Int)), vs = [.ref r, .ref tb, .ref du] ∧ H r = some (.tup [.ref g, .ref l]) ∧ GrpAt (gC K) H g t ∧ TabAt H tb t ∧ DD H 2 (.ref l) (.ref du) ∧ ∀ H', Same H H' → Q (.bl true) H'
def sp_perm2 (K : PySem.W.Frag) : Sp := fun vs H Q _ => ∃ (p tb du : Addr) (as : List Addr) (ps cs : List (List Int)) (n : Nat), vs = [.ref p, .int (n : Nat), .ref tb, .ref du] ∧ H p = some (.lst (as.map V.ref)) ∧ Rows LstN H as ps ∧ ps.length ≤ 900 ∧ n ≤ 900 ∧ (∀ p ∈ ps, p.Perm (rngI n)) ∧ PClosed ps (rngI n) cs ∧ cs.length ≤ 32 ∧ Grp (tabOf cmp2 cs) ∧
  TabAt H tb (tabOf cmp2 cs) ∧ TabAt H du cs ∧ ∀ H', Same H H' → Q (.bl true) H'
def sp_lsub (K : PySem.W.Frag) : Sp := fun vs H Q _ => ∃ (g a tb : Addr) (t : List (List Int)) (ns ms : List Int), vs = [.ref g, .ref a, .ref tb] ∧ GrpAt (gC K) H g t ∧ H a = some (.lst (ms.map V.int)) ∧ SubG t ns ms ∧ TabAt H tb (tabOf (mi t) ms) ∧ ∀ H', Same H H' → Q (.bl true) H'
theorem rgV_off (b n : Nat) : rgV (b : Int) ((b : Int) + (n : Int)) = ((rngI n).map (· + (b : Int))).map V.int := by
  unfold rgV rngI
  rw [List.map_map, List.map_map]
  have e : ((b : Int) + (n : Int) - (b : Int)).toNat = n := by omega
  rw [e]
  refine List.map_congr_left fun i _ => ?_
  show V.int ((b : Int) + (i : Int)) = V.int ((i : Int) + (b : Int))
  rw [Int.add_comm]
section
variable {P : Program} {w : World} {K : PySem.W.Frag} {mg : Str → Option Value} {base : Heap} {f : Addr} {fd : FuncData}
abbrev s__law_widened : Stmt := (top 32)
theorem sc__law_widened : FnScope ["row", "before", "behind", "moved", "point", "last"] ["row", "before", "behind"] (defScope s__law_widened) := ⟨rfl, rfl, rfl, by decide +kernel, rfl, by decide +kernel, by decide +kernel⟩
theorem ok_wid (F : FnP K "_law_widened" "_law_widened" s__law_widened f fd) (T : Txt K mg) : FnOk P w K mg base CX0 1 f fd ["row", "before", "behind"] sp_wid := by
  refine F.ok sc__law_widened (fun vs H Q E h => ?_) (fun cdv A outer s H vs Q E hr h => ?_)
  · obtain ⟨_, _, _, _, rfl, _⟩ := h; rfl
  obtain ⟨a, r, b, h, rfl, ha, rz, bz, hz, k⟩ := h
  refine ⟨_, PSs.nox (pss_cons (ps_setLc (i := 3) (own := [("point", 4)]) rfl sc__law_widened.nd rfl rfl (sw_true rfl rfl rfl (by decide +kernel)) (Rk.pl K rfl (pv 0)) (blkOk_by (own := [("point", 4)]) (N := ["row", "before", "behind", "moved", "point", "last"]) (sc := defScope s__law_widened) (by decide +kernel)) (fun _ _ _ _ _ => (pg_name (i := 4) sc__law_widened.nd rfl (Or.inl rfl))) (fun _ _ _ _ _ => pts_nil) (fun _ _ _ _ _ => (pe_op op_add (pv 4) (pv 1))))
  (pss_cons (ps_set (i := 5) sc__law_widened.nd rfl (Or.inl rfl) (pe_op op_add (pv 1) (pe_callB (Rk.len K) rfl T.len PySem.boot_len (pa_cons (pv 0) pa_nil))))
  (pss_one (ps_ret (pe_op op_cat (pe_op op_cat (pe_listRg rfl rfl T.list (prg_1 rfl T.range (pv 1))) (pv 3)) (pe_listRg rfl rfl T.list (prg_2 rfl T.range (pv 5) (pe_op op_add (pv 5) (pv 2))))))))), ?_⟩
  walk_at "st"
  refine Rd.itl' (SqL.of ha) ?_
  refine Rd.lcMap (fun n => .int (r.getD n 0 + (b : Int))) (Rd.src_list (SqL.of ha)) (by rw [List.length_map]; omega) (by intro _; rfl) (fun n y H1 Q1 hy e1 q1 => ?_) (fun mv H1 hmv e1 h1 => ?_)
  · obtain ⟨u, hu, rfl⟩ := intAt hy
    rw [getD_of hu] at q1
    walk_at "st"
    exact q1 _ (Same.refl _)
  · have hM : H1 mv = some (.lst ((r.map (· + (b : Int))).map V.int)) := by
      rw [h1, List.length_map]
      congr 2
      refine tab_row (by rw [List.length_map]) fun i hi => ?_
      rw [List.getElem?_map, List.getElem?_eq_getElem hi, getD_of (List.getElem?_eq_getElem hi)]; rfl
    walk_at "st"
    refine Rd.len1 (.inl (SqL.of (e1 _ _ ha))) ?_
    walk_at "st"
    refine ⟨⟨by decide, by decide, by omega, by omega, by omega⟩, fun l1 hl1 => ?_⟩
    rw [rgV_eq]
    have e2 : Same H1 (upd H1 l1 (.lst ((rngI b).map V.int))) := Rd.same_mk hl1
    have hL1 : (upd H1 l1 (.lst ((rngI b).map V.int))) l1 = some (.lst ((rngI b).map V.int)) := upd_same
    show _
    change _ at e2
    generalize hH : upd H1 l1 (.lst ((rngI b).map V.int)) = H2 at e2 hL1
    have hH' : upd H1 l1 (.lst (((List.range b).map fun i => ((i : Nat) : Int)).map V.int)) = H2 := hH
    rw [hH']
    walk_at "st"
    refine ⟨l1, mv, _, _, rfl, rfl, hL1, e2 _ _ hM, ?_, fun l2 hl2 => ?_⟩
    · rw [List.length_map, List.length_map, List.length_map, rngI_len]; exact Nat.le_of_lt (Nat.lt_of_le_of_lt (by omega : b + r.length ≤ 2000) (by decide))
    rw [← List.map_append]
    have e3 := Rd.same_mk (o := .lst ((rngI b ++ r.map (· + (b : Int))).map V.int)) hl2
    have hL2 : (upd H2 l2 (.lst ((rngI b ++ r.map (· + (b : Int))).map V.int))) l2 = some (.lst ((rngI b ++ r.map (· + (b : Int))).map V.int)) := upd_same
    generalize upd H2 l2 (.lst ((rngI b ++ r.map (· + (b : Int))).map V.int)) = H3 at e3 hL2
    walk_at "st"
    rw [List.length_map]
    refine ⟨⟨by omega, by omega, by omega, by omega, by omega⟩, fun l3 hl3 => ?_⟩
    have eo : rgV ((b : Int) + (r.length : Int)) ((b : Int) + (r.length : Int) + (h : Int)) = ((rngI h).map (· + ((b + r.length : Nat) : Int))).map V.int := by
      rw [← rgV_off, Int.natCast_add]
    rw [eo]
    have e4 := Rd.same_mk (o := .lst (((rngI h).map (· + ((b + r.length : Nat) : Int))).map V.int)) hl3
    have hL3 : (upd H3 l3 (.lst (((rngI h).map (· + ((b + r.length : Nat) : Int))).map V.int))) l3 = some (.lst (((rngI h).map (· + ((b + r.length : Nat) : Int))).map V.int)) := upd_same
    generalize upd H3 l3 (.lst (((rngI h).map (· + ((b + r.length : Nat) : Int))).map V.int)) = H4 at e4 hL3
    walk_at "st"
    refine ⟨l2, l3, _, _, rfl, rfl, e4 _ _ hL2, hL3, ?_, fun l4 hl4 => ?_⟩
    · simp only [List.length_map, List.length_append, rngI_len]; exact Nat.le_of_lt (Nat.lt_of_le_of_lt (by omega : b + r.length + h ≤ 3000) (by decide))
    rw [← List.map_append]
    have e14 := ((e1.trans e2).trans e3).trans e4
    exact k l4 _ (Same.free e14 hl4) (e14.trans (Rd.same_mk hl4)) upd_same
abbrev s__law_pair_is : Stmt := (top 33)
theorem sc__law_pair_is : FnScope ["told", "table", "due", "row"] ["told", "table", "due"] (defScope s__law_pair_is) := ⟨rfl, rfl, rfl, by decide +kernel, rfl, by decide +kernel, by decide +kernel⟩
theorem ok_pair (F : FnP K "_law_pair_is" "_law_pair_is" s__law_pair_is f fd) (T : Txt K mg) (T4 : Txt4 K mg) (D__law_same : DOk P w K mg base CX0 "_law_same" 4 ["told", "due"] (sp_same 3)) : FnOk P w K mg base CX0 5 f fd ["told", "table", "due"] (sp_pair K) := by
  refine F.ok sc__law_pair_is (fun vs H Q E h => ?_) (fun cdv A outer s H vs Q E hr h => ?_)
  · obtain ⟨_, _, _, _, _, _, rfl, _⟩ := h; rfl
  obtain ⟨r, g, l, tb, du, t, rfl, hr_, G, X, dd, k⟩ := h
  obtain ⟨dx, R, I, rs, hg, hR, hro, hI⟩ := G.ob
  obtain ⟨as, a1, a2⟩ := X.ob
  have g32 := G.le
  have rl : ∀ q ∈ t, q.length ≤ 1000 := fun q hq => by have := (G.grp.sq.row q hq).1; omega
  refine ⟨_, PSs.nox (pss_cons (ps_if (PW.pt (pw_or (pt_not (pt_val (pe_callB (Rk.isi K) rfl T.isinstance (by decide +kernel) (pa_cons (pv 0) (pa_cons (pe_bltn rfl T.tuple (by decide +kernel) (RelV_ty "tuple")) pa_nil))))) (pw_or (pt_cmpR op_ne (pe_callB (Rk.len K) rfl T.len PySem.boot_len (pa_cons (pv 0) pa_nil)) pe_int (nomark _)) (pw_or1 (pt_not (pt_val (pe_callB (Rk.isi K) rfl T.isinstance (by decide +kernel) (pa_cons (pe_ix (Rk.ixT K) (pv 0) pe_int (fun _ _ => rfl)) (pa_cons (pe_glob (v := .ref (He.ga K "Group")) rfl T4.g_Group rfl) pa_nil)))))))))
  (pss_one (ps_ret pe_bl))
  pss_nil)
  (pss_cons (ps_if (pt_not (pt_val (callX D__law_same (hr.mono (by decide)) (passN) (pa_cons (Rk.fld K rfl (pe_ix (Rk.ixT K) (pv 0) pe_int (fun _ _ => rfl)) rfl) (pa_cons (pe_callTy (Rk.tup K) rfl T.tuple (by decide +kernel) (pa_cons (pe_lc (own := [("row", 3)]) rfl sc__law_pair_is.nd (Rk.pl K rfl (pv 1)) (blkOk_by (own := [("row", 3)]) (N := ["told", "table", "due", "row"]) (sc := defScope s__law_pair_is) (by decide +kernel)) (fun _ _ _ _ _ => (pg_name (i := 3) sc__law_pair_is.nd rfl (Or.inl rfl))) (fun _ _ _ _ _ => pts_nil) (fun _ _ _ _ _ => (pe_callTy (Rk.tup K) rfl T.tuple (by decide +kernel) (pa_cons (pv 3) pa_nil)))) pa_nil)) pa_nil)))))
  (pss_one (ps_ret pe_bl))
  pss_nil)
  (pss_one (ps_ret (pe_and (callX D__law_same (hr.mono (by decide)) (passN) (pa_cons (Rk.fld K rfl (pe_ix (Rk.ixT K) (pv 0) pe_int (fun _ _ => rfl)) rfl) (pa_cons (pe_callB (Rk.len K) rfl T.len PySem.boot_len (pa_cons (pv 1) pa_nil)) pa_nil))) (pe_one (callX D__law_same (hr.mono (by decide)) (passN) (pa_cons (pe_ix (Rk.ixT K) (pv 0) pe_int (fun _ _ => rfl)) (pa_cons (pv 2) pa_nil))))))))), ?_⟩
  walk_at "st"
  refine isTupX "tuple" true (.inl hr_) (by decide +kernel) (by intro K; rfl) ?_
  walk_at "st"
  refine (if_neg Bool.false_ne_true).mpr ?_
  walk_at "st"
  refine Rd.len1 (.inr (SqT.of hr_)) ?_
  walk_at "st"
  refine Rd.ite_n (fun c => absurd rfl c) (fun _ => ?_)
  walk_at "st"
  refine Rd.ixT (SqT.of hr_) at0 ?_
  walk_at "st"
  refine ⟨.ref g, .ref (gC K), .ref (gC K), .ref (gC K), true, rfl, ?_, .base (.ins hg T.cl T4.ha T4.hn T4.htk T4.hm), T4.gg, ?_⟩
  · exact .own _
  walk_at "st"
  refine (if_neg Bool.false_ne_true).mpr ?_
  walk_at "st"
  refine Rd.ixT (SqT.of hr_) at0 ?_
  walk_at "st"
  refine Rd.fld' hg T.cl T.nR (lk_rows _ _ _) ?_
  walk_at "st"
  refine Rd.itl' (SqL.of a1) ?_
  refine Rd.lcNew (fun n o => ∃ ob : Obj, ob.dict = none ∧ o = .frz ob (.tup ((t.getD n []).map V.int))) (Rd.src_list (SqL.of a1)) (by rw [List.length_map, a2.len]; omega) (by intro _; rfl) (fun n y H3 Q1 hy e3 q1 => ?_) (fun p ra H3 hp e3 h5 lra hra nd => ?_)
  · obtain ⟨b, q, rfl, h1, h2, h3⟩ := a2.at hy
    walk_at "st"
    refine ⟨b, _, rfl, .inl ⟨SqL.of (e3 _ _ h3), fun l ob hl3 hob => ?_⟩⟩
    exact q1 l _ _ hl3 (Rd.same_mk hl3) (by rw [upd_same]) ⟨ob, hob, by rw [getD_of h2]⟩
  walk_at "st"
  refine ⟨p, _, rfl, .inl ⟨SqL.of h5, fun R2 oR hR3 hoR => ?_⟩⟩
  have e4 : Same H (upd H3 R2 (.frz oR (.tup (ra.map V.ref)))) := Rd.same_add e3 hR3
  have hR2 : TupN (upd H3 R2 (.frz oR (.tup (ra.map V.ref)))) R2 (ra.map V.ref) := TupN.mk hoR
  have rt : Rows TupN (upd H3 R2 (.frz oR (.tup (ra.map V.ref)))) ra t := ⟨by rw [lra, List.length_map, a2.len], fun i b r h1 h2 => by
    obtain ⟨_, h6, ob, hob, rfl⟩ := (hra i b h1).1
    rw [getD_of h2] at h6
    exact ⟨ob, hob, by rw [upd_ne (ne_of_none h6 hR3)]; exact h6⟩⟩
  generalize upd H3 R2 (.frz oR (.tup (ra.map V.ref))) = H4 at e4 hR2 rt
  refine ⟨_, _, rfl, .ttab (hR.same e4).x hR2.x (hro.same e4) rt (by omega) rl, fun H5 e5 => ?_⟩
  have e45 := e4.trans e5
  walk_at "st"
  refine (if_neg Bool.false_ne_true).mpr ?_
  walk_at "st"
  refine Rd.ixT (SqT.of (e45 _ _ hr_)) at0 ?_
  walk_at "st"
  refine Rd.fld' (e45 _ _ hg) T.cl T.nO (lk_order _ _ _) ?_
  walk_at "st"
  refine Rd.len1 (.inl (SqL.of (e45 _ _ a1))) ?_
  rw [List.length_map, a2.len]
  refine ⟨_, _, rfl, .int 2 _, fun H6 e6 => ?_⟩
  have e46 := e45.trans e6
  walk_at "st"
  refine (if_pos rfl).mpr ?_
  walk_at "st"
  refine Rd.ixT (SqT.of (e46 _ _ hr_)) at1 ?_
  walk_at "st"
  exact ⟨_, _, rfl, dd.same e46, fun H7 e7 => k _ (e46.trans e7)⟩
end
end K10

set_option Elab.async false
set_option linter.all false
set_option maxRecDepth 100000
set_option maxHeartbeats 4000000
namespace K10
open PySem L2 Rd GT
local macro_rules | `(tactic| walk_at "st1") => `(tactic| with_reducible first
  | refine' Rd.seq ?_ | refine' Rd.nxt ?_ | refine' Rd.asg ?_ | refine' Rd.nm ?_ | refine' Rd.con ?_ | refine' Rd.op ?_ | refine' Rd.i0 ?_ | refine' Rd.un ?_ | refine' Rd.u0 ?_
  | refine' Rd.eqI ?_ | refine' Rd.neI ?_ | refine' Rd.eqB ?_ | refine' Rd.tst ?_ | refine' Rd.tB_ ?_ | refine' Rd.exb ?_ | refine' Rd.ifS ?_ | refine' Rd.ret ?_ | refine' Rd.retN ?_ | refine' Rd.drop ?_
  | refine' Rd.nil ?_ | refine' Rd.cons ?_ | refine' Rd.cb ?_ | refine' Rd.call ?_ | refine' Rd.callN ?_ | refine' Rd.andT ?_ | refine' Rd.orT ?_ | refine' Rd.notT ?_ | refine' Rd.andV ?_ | refine' Rd.orV ?_ | refine' Rd.notV ?_ | refine' Rd.chain ?_
  | refine' Rd.lst ?_ | refine' Rd.tup ?_ | refine' Rd.for_ ?_ | refine' Rd.rng1 ?_ | refine' Rd.rng2 ?_ | refine' Rd.itl ?_ | refine' Rd.itt ?_ | refine' Rd.sub ?_
  | refine' Rd.lrg ?_ | refine' Rd.rg1 ?_ | refine' Rd.rg2 ?_ | refine' Rd.exi ?_ | refine' Rd.exi2 ?_ | refine' Rd.int1 ?_ | refine' Rd.ex1 ?_ | refine' Rd.ex2 ?_
  | refine' Rd.fld ?_ | refine' Rd.sfld ?_ | refine' Rd.meth ?_ | refine' Rd.make ?_ | refine' Rd.lc ?_ | refine' Rd.bm ?_ | refine' Rd.bm0 ?_ | refine' Rd.bt ?_ | refine' Rd.enT ?_ | refine' Rd.enL ?_)
local macro_rules | `(tactic| walk_at "st") => `(tactic| repeat (first | walk_at "st1" | ((with_reducible refine' Rd.var ?hv ?_); (case hv => rfl))))
local macro_rules | `(tactic| walk_at "sj1") => `(tactic| with_reducible first
  | refine' Rd.seqA ?_ | refine' Rd.seqD ?_ | refine' Rd.seqF ?_ | refine' Rd.seqW ?_ | refine' Rd.nxt ?_ | refine' Rd.asg ?_ | refine' Rd.nm ?_ | refine' Rd.con ?_ | refine' Rd.op ?_ | refine' Rd.i0 ?_ | refine' Rd.un ?_ | refine' Rd.u0 ?_
  | refine' Rd.eqI ?_ | refine' Rd.neI ?_ | refine' Rd.eqB ?_ | refine' Rd.tst ?_ | refine' Rd.tB_ ?_ | refine' Rd.exb ?_ | refine' Rd.ifS ?_ | refine' Rd.ret ?_ | refine' Rd.retN ?_ | refine' Rd.drop ?_
  | refine' Rd.nil ?_ | refine' Rd.cons ?_ | refine' Rd.cb ?_ | refine' Rd.call ?_ | refine' Rd.callN ?_ | refine' Rd.andT ?_ | refine' Rd.orT ?_ | refine' Rd.notT ?_ | refine' Rd.andV ?_ | refine' Rd.orV ?_ | refine' Rd.notV ?_ | refine' Rd.chain ?_
  | refine' Rd.lst ?_ | refine' Rd.tup ?_ | refine' Rd.for_ ?_ | refine' Rd.rng1 ?_ | refine' Rd.rng2 ?_ | refine' Rd.itl ?_ | refine' Rd.itt ?_ | refine' Rd.sub ?_
  | refine' Rd.lrg ?_ | refine' Rd.rg1 ?_ | refine' Rd.rg2 ?_ | refine' Rd.exi ?_ | refine' Rd.exi2 ?_ | refine' Rd.int1 ?_ | refine' Rd.ex1 ?_ | refine' Rd.ex2 ?_
  | refine' Rd.fld ?_ | refine' Rd.sfld ?_ | refine' Rd.meth ?_ | refine' Rd.make ?_ | refine' Rd.lc ?_ | refine' Rd.bm ?_ | refine' Rd.bm0 ?_ | refine' Rd.bt ?_ | refine' Rd.enT ?_ | refine' Rd.enL ?_)
local macro_rules | `(tactic| walk_at "sj") => `(tactic| repeat (first | walk_at "sj1" | ((with_reducible refine' Rd.var ?hv ?_); (case hv => rfl))))
section
variable {P : Program} {w : World} {K : PySem.W.Frag} {mg : Str → Option Value} {base : Heap} {f : Addr} {fd : FuncData}
theorem TabAt.dd {H : Hp} {p q : Addr} {t : List (List Int)} (X : TabAt H p t) (Y : TabAt H q t) (z : t.length ≤ 1000) (z2 : ∀ r ∈ t, r.length ≤ 1000) : DD H 2 (.ref p) (.ref q) := by
  obtain ⟨as, a1, a2⟩ := X.ob
  obtain ⟨bs, b1, b2⟩ := Y.ob
  exact .tab a1 b1 a2 b2 z z2
abbrev s__law_permuted : Stmt := (top 34)
theorem sc__law_permuted : FnScope ["permutations", "many", "table", "due", "passed", "row", "told", "found", "one"] ["permutations", "many", "table", "due"] (defScope s__law_permuted) := ⟨rfl, rfl, rfl, by decide +kernel, rfl, by decide +kernel, by decide +kernel⟩
theorem ok_perm2 (F : FnP K "_law_permuted" "_law_permuted" s__law_permuted f fd) (T : Txt K mg) (D_from_permutations : DOkN P w K mg base CX0 "from_permutations" 4 ["permutations", "points"] 1 ["points"] (sp_fp K)) (D__law_pair_is : DOk P w K mg base CX0 "_law_pair_is" 5 ["told", "table", "due"] (sp_pair K))
    (D__law_same : DOk P w K mg base CX0 "_law_same" 4 ["told", "due"] (sp_same 3)) : FnOk P w K mg base CX0 6 f fd ["permutations", "many", "table", "due"] (sp_perm2 K) := by
  refine F.ok sc__law_permuted (fun vs H Q E h => ?_) (fun cdv A outer s H vs Q E hr h => ?_)
  · obtain ⟨_, _, _, _, _, _, _, rfl, _⟩ := h; rfl
  obtain ⟨p, tb, du, as, ps, cs, n, rfl, hp, R, pz, nz, pp, C, c32, GG, XT, XD, k⟩ := h
  have hrow : ∀ p ∈ ps, p.length = n := fun p hp => by have := (pp p hp).length_eq; rw [rngI_len] at this; exact this
  have hcs : ∀ z ∈ cs, z.length = n := fun z hz => (PReach.rng pp ((C.mem z).mp hz)).1
  have cpos : 0 < cs.length := List.length_pos_of_mem ((C.mem (rngI n)).mpr .one)
  refine ⟨_, PSs.nox (pss_cons (ps_setLc (i := 4) (own := [("row", 5)]) rfl sc__law_permuted.nd rfl rfl (sw_true rfl rfl rfl (by decide +kernel)) (Rk.pl K rfl (pv 0)) (blkOk_by (own := [("row", 5)]) (N := ["permutations", "many", "table", "due", "passed", "row", "told", "found", "one"]) (sc := defScope s__law_permuted) (by decide +kernel)) (fun _ _ _ _ _ => (pg_name (i := 5) sc__law_permuted.nd rfl (Or.inl rfl))) (fun _ _ _ _ _ => pts_nil) (fun _ _ _ _ _ => (pe_callTy (Rk.lis K) rfl T.list (by decide +kernel) (pa_cons (pv 5) pa_nil))))
  (pss_cons (ps_set (i := 6) sc__law_permuted.nd rfl (Or.inl rfl) (callXN D_from_permutations (hr.mono (by decide)) (passN) (pa_cons (pv 4) pa_nil) (pk_cons (pv 1) pk_nil)))
  (pss_cons (ps_if (PW.pt (pw_or (pt_not (pt_val (callX D__law_pair_is (hr.mono (by decide)) (passN) (pa_cons (pv 6) (pa_cons (pv 2) (pa_cons (pv 3) pa_nil)))))) (pw_or1 (pt_not (pt_val (callX D__law_same (hr.mono (by decide)) (passN) (pa_cons (pv 4) (pa_cons (pv 0) pa_nil))))))))
  (pss_one (ps_ret pe_bl))
  pss_nil)
  (pss_cons (ps_set (i := 7) sc__law_permuted.nd rfl (Or.inl rfl) (pe_ix (Rk.ixT K) (pv 6) pe_int (fun _ _ => rfl)))
  (pss_cons (ps_set (i := 5) sc__law_permuted.nd rfl (Or.inl rfl) (pe_ix (Rk.ixL K) (pv 7) (pe_op op_sub (pe_callB (Rk.len K) rfl T.len PySem.boot_len (pa_cons (pv 7) pa_nil)) pe_int) (fun _ _ => rfl)))
  (pss_cons (ps_expr (Rk.bm K rfl PySem.F.plainAttrs_list PySem.F.slot_list_append PySem.F.type_list_append mt_append (pv 5) (pa_cons (pv 1) pa_nil)))
  (pss_cons (ps_expr (Rk.bm K rfl PySem.F.plainAttrs_list PySem.F.slot_list_append PySem.F.type_list_append mt_append (pv 7) (pa_cons (pe_listRg rfl rfl T.list (prg_1 rfl T.range (pv 1))) pa_nil)))
  (pss_cons (ps_expr (Rk.bm K rfl PySem.F.plainAttrs_list PySem.F.slot_list_append PySem.F.type_list_append mt_append (pv 4) (pa_cons (pe_lst pa_nil) pa_nil)))
  (pss_one (ps_ret (callX D__law_pair_is (hr.mono (by decide)) (passN) (pa_cons (callXN D_from_permutations (hr.mono (by decide)) (passN) (pa_cons (pe_lc (own := [("one", 8)]) rfl sc__law_permuted.nd (Rk.pl K rfl (pv 0)) (blkOk_by (own := [("one", 8)]) (N := ["permutations", "many", "table", "due", "passed", "row", "told", "found", "one"]) (sc := defScope s__law_permuted) (by decide +kernel)) (fun _ _ _ _ _ => (pg_name (i := 8) sc__law_permuted.nd rfl (Or.inl rfl))) (fun _ _ _ _ _ => pts_nil) (fun _ _ _ _ _ => (pe_callTy (Rk.lis K) rfl T.list (by decide +kernel) (pa_cons (pv 8) pa_nil)))) pa_nil) (pk_cons (pv 1) pk_nil)) (pa_cons (pv 2) (pa_cons (pv 3) pa_nil)))))))))))))), ?_⟩
  walk_at "st"
  refine Rd.itl' (SqL.of hp) ?_
  refine Rd.lcNew (fun i o => o = .lst ((ps.getD i []).map V.int)) (Rd.src_list (SqL.of hp)) (by rw [List.length_map, R.len]; omega) (by intro _; rfl) (fun i y H1 Q1 hy e1 q1 => ?_) (fun pd ra H1 hpd e1 h1 lra hra nd => ?_)
  · obtain ⟨b, q, rfl, g1, g2, g3⟩ := R.at hy
    rw [getD_of g2] at q1
    walk_at "st"
    exact ⟨b, _, rfl, .inl (SqL.of (e1 _ _ g3)), fun l hl => q1 l _ _ hl (Rd.same_mk hl) upd_same rfl⟩
  have X1 : TabN H H1 pd ps := TabN.made hpd h1 (by rw [lra, List.length_map, R.len]) hra nd
  obtain ⟨pa, p1, prows, p3, p4⟩ := X1.ob
  walk_at "st"
  refine ⟨rfl, rfl, pd, pa, ps, cs, n, rfl, p1, prows, by omega, pp, C, c32, GG, fun r g l H2 hr2 e2 h2 GA X2 => ?_⟩
  have e12 := e1.trans e2
  walk_at "st"
  refine ⟨r, g, l, tb, du, _, rfl, h2, GA, XT.same e12, (TabN.tab X2).dd (XD.same e12) (by omega) (fun z hz => by rw [hcs z hz]; omega), fun H3 e3 => ?_⟩
  have e13 := e12.trans e3
  have e23 := e2.trans e3
  walk_at "st"
  refine (if_neg Bool.false_ne_true).mpr ?_
  walk_at "st"
  refine ⟨_, _, rfl, .tab (e23 _ _ p1) (e13 _ _ hp) (prows.sameL e23) (R.sameL e13) (by omega) (fun z hz => by rw [hrow z hz]; omega), fun H4 e4 => ?_⟩
  have e14 := e13.trans e4
  have e24 := e23.trans e4
  have e34 := e3.trans e4
  walk_at "st"
  refine (if_neg Bool.false_ne_true).mpr ?_
  walk_at "st"
  refine Rd.ixT (SqT.of (e34 _ _ h2)) at1 ?_
  have X4 : TabN H H4 l cs := (TabN.on X2 e34).sub e1
  walk_at "st"
  obtain ⟨ca, c0, z, d1, d2, d3, d4, d5, d6, X5⟩ := X4.at (i := cs.length - 1) (by omega)
  refine Rd.len1 (.inl (SqL.of d1)) ?_
  walk_at "st"
  rw [List.length_map, d6]
  refine Rd.ixL (SqL.of d1) (at_of (j := cs.length - 1) (v := .ref c0) (by omega) (by rw [List.getElem?_map, d2]; rfl)) ?_
  walk_at "st"
  refine Rd.tyL d4 ?_
  walk_at "st"
  have zl := hcs z (List.mem_of_getElem? d3)
  refine Rd.app d4 (by rw [List.length_map, zl]; exact line_of (by omega)) ?_
  rw [map_add_int]
  have X5' := X5 (z ++ [(n : Int)])
  have e15 : Same H (upd H4 c0 (.lst ((z ++ [(n : Int)]).map V.int))) := Rd.same_mut e14 d5
  have npd : pd ≠ c0 := fun q => by
    have := (X2.ob.choose_spec.2.2.1)
    have h6 := p1
    have : H1 c0 = none := by
      obtain ⟨xa, x1, x2, x3, x4⟩ := X2.ob
      have := e34 _ _ x1
      rw [d1] at this
      have ex : ca = xa := (List.map_inj_right fun x y h => V.ref.inj h).mp (HO.lst.inj (Option.some.inj this))
      rw [ex] at d2
      exact (x3 c0 (List.mem_of_getElem? d2)).1
    rw [← q, p1] at this
    cases this
  have npl : pd ≠ l := fun q => by
    have := X2.fresh
    rw [← q, p1] at this
    cases this
  have p5 : (upd H4 c0 (.lst ((z ++ [(n : Int)]).map V.int))) pd = some (.lst (pa.map V.ref)) := by rw [upd_ne npd]; exact e24 _ _ p1
  generalize upd H4 c0 (.lst ((z ++ [(n : Int)]).map V.int)) = H5 at X5' e15 p5
  obtain ⟨ca2, f1, f2, f3, f4⟩ := X5'.ob
  have fl : ca2.length ≤ 32 := by rw [f2.len, List.length_set]; exact c32
  walk_at "st"
  refine Rd.tyL f1 ?_
  walk_at "st"
  refine ⟨⟨by decide, by decide, by omega, by omega, by omega⟩, fun l0 hl0 => ?_⟩
  have nl0 : l ≠ l0 := ne_of_none f1 hl0
  have npl0 : pd ≠ l0 := ne_of_none p5 hl0
  have f1' : (upd H5 l0 (.lst (rgV 0 (n : Int)))) l = some (.lst (ca2.map V.ref)) := by rw [upd_ne nl0]; exact f1
  have p6 : (upd H5 l0 (.lst (rgV 0 (n : Int)))) pd = some (.lst (pa.map V.ref)) := by rw [upd_ne npl0]; exact p5
  have e16 := Rd.same_add (o := .lst (rgV 0 (n : Int))) e15 hl0
  generalize upd H5 l0 (.lst (rgV 0 (n : Int))) = H6 at f1' e16 p6
  walk_at "st"
  refine Rd.app f1' (by rw [List.length_map]; exact line_of (by omega)) ?_
  have e17 := Rd.same_mut (o := .lst (ca2.map V.ref ++ [.ref l0])) e16 X4.fresh
  have p7 : (upd H6 l (.lst (ca2.map V.ref ++ [.ref l0]))) pd = some (.lst (pa.map V.ref)) := by rw [upd_ne npl]; exact p6
  generalize upd H6 l (.lst (ca2.map V.ref ++ [.ref l0])) = H7 at e17 p7
  walk_at "st"
  refine Rd.tyL p7 ?_
  walk_at "st"
  refine ⟨Nat.zero_le _, fun l9 hl9 => ?_⟩
  have p8 : (upd H7 l9 (.lst [])) pd = some (.lst (pa.map V.ref)) := by rw [upd_ne (ne_of_none p7 hl9)]; exact p7
  have e18 := Rd.same_add (o := .lst []) e17 hl9
  generalize upd H7 l9 (.lst []) = H8 at e18 p8
  walk_at "st"
  refine Rd.app p8 (by rw [List.length_map, prows.len]; exact line_of (by omega)) ?_
  have e19 := Rd.same_mut (o := .lst (pa.map V.ref ++ [.ref l9])) e18 hpd
  generalize upd H8 pd (.lst (pa.map V.ref ++ [.ref l9])) = H9 at e19
  walk_at "st"
  refine Rd.itl' (SqL.of (e19 _ _ hp)) ?_
  refine Rd.lcNew (fun i o => o = .lst ((ps.getD i []).map V.int)) (Rd.src_list (SqL.of (e19 _ _ hp))) (by rw [List.length_map, R.len]; omega) (by intro _; rfl) (fun i y Ha Q1 hy ea q1 => ?_) (fun pd2 ra2 Ha hpd2 ea ha2 lra2 hra2 nd2 => ?_)
  · obtain ⟨b, q, rfl, g1, g2, g3⟩ := R.at hy
    rw [getD_of g2] at q1
    walk_at "st"
    exact ⟨b, _, rfl, .inl (SqL.of (ea _ _ (e19 _ _ g3))), fun l hl => q1 l _ _ hl (Rd.same_mk hl) upd_same rfl⟩
  have XA : TabN H9 Ha pd2 ps := TabN.made hpd2 ha2 (by rw [lra2, List.length_map, R.len]) hra2 nd2
  obtain ⟨qa, q1, qrows, q3, q4⟩ := XA.ob
  have e1a := e19.trans ea
  walk_at "st"
  refine ⟨rfl, rfl, pd2, qa, ps, cs, n, rfl, q1, qrows, by omega, pp, C, c32, GG, fun r2 g2 l2 Hb hr3 eb h3 GA2 X9 => ?_⟩
  have e1b := e1a.trans eb
  walk_at "st"
  exact ⟨r2, g2, l2, tb, du, _, rfl, h3, GA2, XT.same e1b, (TabN.tab X9).dd (XD.same e1b) (by omega) (fun z hz => by rw [hcs z hz]; omega), fun Hc ec => k _ (e1b.trans ec)⟩
abbrev s__law_subgroup : Stmt := (top 35)
theorem sc__law_subgroup : FnScope ["group", "members", "table", "passed", "told", "found"] ["group", "members", "table"] (defScope s__law_subgroup) := ⟨rfl, rfl, rfl, by decide +kernel, rfl, by decide +kernel, by decide +kernel⟩
theorem ok_lsub (F : FnP K "_law_subgroup" "_law_subgroup" s__law_subgroup f fd) (T : Txt K mg) (D_subgroup_as_group : DOk P w K mg base CX0 "subgroup_as_group" 4 ["group", "members"] (sp_sg K)) (D__law_pair_is : DOk P w K mg base CX0 "_law_pair_is" 5 ["told", "table", "due"] (sp_pair K))
    (D__law_same : DOk P w K mg base CX0 "_law_same" 4 ["told", "due"] (sp_same 3)) : FnOk P w K mg base CX0 6 f fd ["group", "members", "table"] (sp_lsub K) := by
  refine F.ok sc__law_subgroup (fun vs H Q E h => ?_) (fun cdv A outer s H vs Q E hr h => ?_)
  · obtain ⟨_, _, _, _, _, _, rfl, _⟩ := h; rfl
  obtain ⟨g, a, tb, t, ns, ms, rfl, G, ha, S, XT, k⟩ := h
  have g32 := G.le
  have mle := S.le G.grp
  refine ⟨_, PSs.nox (pss_cons (ps_set (i := 3) sc__law_subgroup.nd rfl (Or.inl rfl) (pe_callTy (Rk.lis K) rfl T.list (by decide +kernel) (pa_cons (pv 1) pa_nil)))
  (pss_cons (ps_set (i := 4) sc__law_subgroup.nd rfl (Or.inl rfl) (callX D_subgroup_as_group (hr.mono (by decide)) (passN) (pa_cons (pv 0) (pa_cons (pv 3) pa_nil))))
  (pss_cons (ps_if (PW.pt (pw_or (pt_not (pt_val (callX D__law_pair_is (hr.mono (by decide)) (passN) (pa_cons (pv 4) (pa_cons (pv 2) (pa_cons (pv 1) pa_nil)))))) (pw_or1 (pt_not (pt_val (callX D__law_same (hr.mono (by decide)) (passN) (pa_cons (pv 3) (pa_cons (pv 1) pa_nil))))))))
  (pss_one (ps_ret pe_bl))
  pss_nil)
  (pss_cons (ps_set (i := 5) sc__law_subgroup.nd rfl (Or.inl rfl) (pe_ix (Rk.ixT K) (pv 4) pe_int (fun _ _ => rfl)))
  (pss_cons (ps_expr (Rk.bm K rfl PySem.F.plainAttrs_list PySem.F.slot_list_append PySem.F.type_list_append mt_append (pv 5) (pa_cons pe_int pa_nil)))
  (pss_one (ps_ret (callX D__law_pair_is (hr.mono (by decide)) (passN) (pa_cons (callX D_subgroup_as_group (hr.mono (by decide)) (passN) (pa_cons (pv 0) (pa_cons (pe_callTy (Rk.lis K) rfl T.list (by decide +kernel) (pa_cons (pv 1) pa_nil)) pa_nil))) (pa_cons (pv 2) (pa_cons (pv 1) pa_nil))))))))))), ?_⟩
  walk_at "st"
  refine ⟨a, _, rfl, .inl (SqL.of ha), fun pd hpd => ?_⟩
  have e1 : Same H (upd H pd (.lst (ms.map V.int))) := Rd.same_mk hpd
  have h1 : (upd H pd (.lst (ms.map V.int))) pd = some (.lst (ms.map V.int)) := upd_same
  generalize upd H pd (.lst (ms.map V.int)) = H1 at e1 h1
  walk_at "st"
  refine ⟨g, pd, t, ns, ms, rfl, G.same e1, h1, S, fun r q l H2 hr2 e2 h2 GA hl hL => ?_⟩
  have e12 := e1.trans e2
  walk_at "st"
  refine ⟨r, q, l, tb, a, _, rfl, h2, GA, XT.same e12, (DD.ints hL (e12 _ _ ha) (by omega)).up, fun H3 e3 => ?_⟩
  have e13 := e12.trans e3
  have e23 := e2.trans e3
  walk_at "st"
  refine (if_neg Bool.false_ne_true).mpr ?_
  walk_at "st"
  refine ⟨_, _, rfl, (DD.ints (e23 _ _ h1) (e13 _ _ ha) (by omega)).up, fun H4 e4 => ?_⟩
  have e14 := e13.trans e4
  have e34 := e3.trans e4
  walk_at "st"
  refine (if_neg Bool.false_ne_true).mpr ?_
  walk_at "st"
  refine Rd.ixT (SqT.of (e34 _ _ h2)) at1 ?_
  walk_at "st"
  refine Rd.tyL (e34 _ _ hL) ?_
  walk_at "st"
  refine Rd.app (e34 _ _ hL) (by rw [List.length_map]; exact line_of (by omega)) ?_
  have hl0 := Same.free e1 hl
  have e15 : Same H (upd H4 l (.lst (ms.map V.int ++ [.int 0]))) := Rd.same_mut e14 hl0
  generalize upd H4 l (.lst (ms.map V.int ++ [.int 0])) = H5 at e15
  walk_at "st"
  refine ⟨a, _, rfl, .inl (SqL.of (e15 _ _ ha)), fun pe hpe => ?_⟩
  have e6 : Same H5 (upd H5 pe (.lst (ms.map V.int))) := Rd.same_mk hpe
  have h6 : (upd H5 pe (.lst (ms.map V.int))) pe = some (.lst (ms.map V.int)) := upd_same
  generalize upd H5 pe (.lst (ms.map V.int)) = H6 at e6 h6
  have e16 := e15.trans e6
  refine ⟨g, pe, t, ns, ms, rfl, G.same e16, h6, S, fun r2 q2 l2 H7 hr3 e7 h7 GA2 hl2 hL2 => ?_⟩
  have e17 := e16.trans e7
  walk_at "st"
  exact ⟨r2, q2, l2, tb, a, _, rfl, h7, GA2, XT.same e17, (DD.ints hL2 (e17 _ _ ha) (by omega)).up, fun H8 e8 => k _ (e17.trans e8)⟩
end
end K10

set_option Elab.async false
set_option linter.all false
set_option maxRecDepth 100000
set_option maxHeartbeats 4000000
namespace K10
open PySem L2 Rd GT
local macro_rules | `(tactic| walk_at "st1") => `(tactic| with_reducible first
  | refine' Rd.seq ?_ | refine' Rd.nxt ?_ | refine' Rd.asg ?_ | refine' Rd.nm ?_ | refine' Rd.con ?_ | refine' Rd.op ?_ | refine' Rd.i0 ?_ | refine' Rd.un ?_ | refine' Rd.u0 ?_
  | refine' Rd.eqI ?_ | refine' Rd.neI ?_ | refine' Rd.eqB ?_ | refine' Rd.tst ?_ | refine' Rd.tB_ ?_ | refine' Rd.exb ?_ | refine' Rd.ifS ?_ | refine' Rd.ret ?_ | refine' Rd.retN ?_ | refine' Rd.drop ?_
  | refine' Rd.nil ?_ | refine' Rd.cons ?_ | refine' Rd.cb ?_ | refine' Rd.call ?_ | refine' Rd.callN ?_ | refine' Rd.andT ?_ | refine' Rd.orT ?_ | refine' Rd.notT ?_ | refine' Rd.andV ?_ | refine' Rd.orV ?_ | refine' Rd.notV ?_ | refine' Rd.chain ?_
  | refine' Rd.lst ?_ | refine' Rd.tup ?_ | refine' Rd.for_ ?_ | refine' Rd.rng1 ?_ | refine' Rd.rng2 ?_ | refine' Rd.itl ?_ | refine' Rd.itt ?_ | refine' Rd.sub ?_
  | refine' Rd.lrg ?_ | refine' Rd.rg1 ?_ | refine' Rd.rg2 ?_ | refine' Rd.exi ?_ | refine' Rd.exi2 ?_ | refine' Rd.int1 ?_ | refine' Rd.ex1 ?_ | refine' Rd.ex2 ?_
  | refine' Rd.fld ?_ | refine' Rd.sfld ?_ | refine' Rd.meth ?_ | refine' Rd.make ?_ | refine' Rd.lc ?_ | refine' Rd.bm ?_ | refine' Rd.bm0 ?_ | refine' Rd.bt ?_ | refine' Rd.enT ?_ | refine' Rd.enL ?_)
local macro_rules | `(tactic| walk_at "st") => `(tactic| repeat (first | walk_at "st1" | ((with_reducible refine' Rd.var ?hv ?_); (case hv => rfl))))
local macro_rules | `(tactic| walk_at "sj1") => `(tactic| with_reducible first
  | refine' Rd.seqA ?_ | refine' Rd.seqD ?_ | refine' Rd.seqF ?_ | refine' Rd.seqW ?_ | refine' Rd.nxt ?_ | refine' Rd.asg ?_ | refine' Rd.nm ?_ | refine' Rd.con ?_ | refine' Rd.op ?_ | refine' Rd.i0 ?_ | refine' Rd.un ?_ | refine' Rd.u0 ?_
  | refine' Rd.eqI ?_ | refine' Rd.neI ?_ | refine' Rd.eqB ?_ | refine' Rd.tst ?_ | refine' Rd.tB_ ?_ | refine' Rd.exb ?_ | refine' Rd.ifS ?_ | refine' Rd.ret ?_ | refine' Rd.retN ?_ | refine' Rd.drop ?_
  | refine' Rd.nil ?_ | refine' Rd.cons ?_ | refine' Rd.cb ?_ | refine' Rd.call ?_ | refine' Rd.callN ?_ | refine' Rd.andT ?_ | refine' Rd.orT ?_ | refine' Rd.notT ?_ | refine' Rd.andV ?_ | refine' Rd.orV ?_ | refine' Rd.notV ?_ | refine' Rd.chain ?_
  | refine' Rd.lst ?_ | refine' Rd.tup ?_ | refine' Rd.for_ ?_ | refine' Rd.rng1 ?_ | refine' Rd.rng2 ?_ | refine' Rd.itl ?_ | refine' Rd.itt ?_ | refine' Rd.sub ?_
  | refine' Rd.lrg ?_ | refine' Rd.rg1 ?_ | refine' Rd.rg2 ?_ | refine' Rd.exi ?_ | refine' Rd.exi2 ?_ | refine' Rd.int1 ?_ | refine' Rd.ex1 ?_ | refine' Rd.ex2 ?_
  | refine' Rd.fld ?_ | refine' Rd.sfld ?_ | refine' Rd.meth ?_ | refine' Rd.make ?_ | refine' Rd.lc ?_ | refine' Rd.bm ?_ | refine' Rd.bm0 ?_ | refine' Rd.bt ?_ | refine' Rd.enT ?_ | refine' Rd.enL ?_)
local macro_rules | `(tactic| walk_at "sj") => `(tactic| repeat (first | walk_at "sj1" | ((with_reducible refine' Rd.var ?hv ?_); (case hv => rfl))))
/-- a table beside the bag -/
structure TabO (H : Hp) (p : Addr) (t : List (List Int)) (b : Addr) : Prop where
  ob : ∃ as : List Addr, H p = some (.lst (as.map V.ref)) ∧ Rows LstN H as t ∧ p ≠ b ∧ ∀ a ∈ as, a ≠ b
theorem TabO.tab {H : Hp} {p b : Addr} {t : List (List Int)} (X : TabO H p t b) : TabAt H p t := by
  obtain ⟨as, h1, h2, _⟩ := X.ob
  exact ⟨as, h1, h2⟩
theorem TabO.but {H H' : Hp} {p b : Addr} {t : List (List Int)} (X : TabO H p t b) (e : But b H H') : TabO H' p t b := by
  obtain ⟨as, h1, h2, h3, h4⟩ := X.ob
  exact ⟨as, e _ _ h3 h1, h2.map fun a xs ha h => e _ _ (h4 a ha) h, h3, h4⟩
theorem TabO.same {H H' : Hp} {p b : Addr} {t : List (List Int)} (X : TabO H p t b) (e : Same H H') : TabO H' p t b := X.but (Rd.But.of e)
theorem _root_.GT.GrpAt.bag {C : Addr} {H H' : Hp} {g b : Addr} {t : List (List Int)} (G : GrpAt C H g t) (hb : Bag H b) (e : But b H H') : GrpAt C H' g t := by
  obtain ⟨x, y, h, _⟩ := hb
  exact G.but h e
/-- a comprehension that draws -/
theorem lcBag {b : Addr} {N : Int} {n j : Nat} {te : TE} {vs : List Nat} {σ : L2.St} {H : Hp} {Qd : Addr → Hp → Prop} (hb : Bag H b) (hz : n ≤ 1000) (hw : ∀ x : V, wipe ((wipe σ vs).set j (some x)) vs = wipe σ vs)
    (hs : ∀ (x : V) (H1 : Hp) (Q1 : VK), Bag H1 b → (∀ (v : Int) (H2 : Hp), 0 ≤ v → v < N → Bag H2 b → But b H1 H2 → Q1 (.int v) H2) → te ((wipe σ vs).set j (some x)) H1 Q1)
    (hq : ∀ (q : Addr) (ns : List Int) (H1 : Hp), H q = none → ns.length = n → (∀ x ∈ ns, 0 ≤ x ∧ x < N) → Bag H1 b → But b H H1 → H1 q = some (.lst (ns.map V.int)) → Qd q H1)
    (D : Addr) (hD : H D = none) :
    ∃ W : Nat → Nat → Hp → Prop, (∃ m, W 0 m (upd H D (.lst []))) ∧ ∀ i m H, W i m H →
      ((Itr 0 n).stop i H ∧ Qd D H) ∨ ((Itr 0 n).go i H ∧ ∃ Nx : Hp → Prop, (∀ H', Nx H' → ∃ m', m' < m ∧ W (i + 1) m' H') ∧ ∀ x H', (Itr 0 n).yld i H x H' → gName j x (wipe σ vs) H' fun σ2 H2 => wipe σ2 vs = wipe σ vs ∧ tYes σ2 H2 fun b H3 =>
        if b = true then te σ2 H3 fun y H4 => ∃ acc, H4 D = some (.lst acc) ∧ acc.length < sizeLine ∧ Nx (upd H4 D (.lst (acc ++ [y]))) else Nx H3) := by
  have nb := hb.ne hD
  refine ⟨fun i m H1 => m = n - i ∧ i ≤ n ∧ ∃ ns : List Int, ns.length = i ∧ (∀ x ∈ ns, 0 ≤ x ∧ x < N) ∧ Bag H1 b ∧ But b H H1 ∧ H1 D = some (.lst (ns.map V.int)),
    ⟨n, rfl, Nat.zero_le _, [], rfl, (fun x h => by cases h), hb.put nb, butAdd (Rd.But.refl _ _) hD, upd_same⟩, ?_⟩
  rintro i m H1 ⟨rfl, hi, ns, rfl, rg, hb1, e1, hL⟩
  by_cases c : ns.length < n
  · refine .inr ⟨c, fun H' => ∃ ms : List Int, ms.length = ns.length + 1 ∧ (∀ x ∈ ms, 0 ≤ x ∧ x < N) ∧ Bag H' b ∧ But b H H' ∧ H' D = some (.lst (ms.map V.int)), fun H' z => ⟨n - (ns.length + 1), by omega, rfl, c, z⟩, fun x H' y => ?_⟩
    obtain ⟨rfl, _⟩ := y
    refine ⟨hw x, Rd.tyes (iteT (hs x _ _ hb1 fun v H2 v0 v1 hb2 e2 => ?_))⟩
    refine ⟨ns.map V.int, e2 _ _ nb.symm hL, by rw [List.length_map]; exact line_of (by omega), ns ++ [v], by simp, fun x hx => ?_, hb2.put nb, butMut (e1.trans e2) hD, by rw [upd_same, map_add_int]⟩
    rcases List.mem_append.mp hx with h | h
    · exact rg x h
    · rw [List.mem_singleton.mp h]
      exact ⟨v0, v1⟩
  · have e : ns.length = n := by omega
    exact .inl ⟨by show n ≤ ns.length; omega, hq D ns H1 hD e rg hb1 e1 hL⟩
def sp_law (K : PySem.W.Frag) : Sp := fun vs H Q _ => ∃ (a : Addr) (ns : List Int), vs = [.ref a] ∧ SqL K H a (ns.map V.int) ∧ ns.length ≤ 63 ∧ ∀ H', Q (.bl true) H'
theorem Drawn.grp {t : List (List Int)} (D : Drawn t) : Grp t := by
  induction D with
  | cyc M => exact M.grp
  | prm O => exact O.grp
  | ren _ R ih => exact R.grp ih
theorem TabAt.cellI {K : PySem.W.Frag} {H : Hp} {p : Addr} {t : List (List Int)} (X : TabAt H p t) (S : Sq t) {x y : Int} (hx : InT t x) (hy : InT t y) : ∃ (xs : List V) (a : Addr) (rs : List V), SqL K H p xs ∧ atI xs x = some (.ref a) ∧ SqL K H a rs ∧ atI rs y = some (.int (mi t x y)) := by
  obtain ⟨x0, x1⟩ := hx
  obtain ⟨y0, y1⟩ := hy
  obtain ⟨xs, a, rs, h1, h2, h3, h4⟩ := X.cell (K := K) S (x := x.toNat) (y := y.toNat) (by omega) (by omega)
  rw [Int.toNat_of_nonneg x0] at h2
  rw [Int.toNat_of_nonneg y0] at h4
  refine ⟨xs, a, rs, h1, h2, h3, ?_⟩
  rw [h4, ← S.mul_eq (by omega) (by omega)]; rfl
theorem row_of {t : List (List Int)} (S : Sq t) {i : Nat} {r : List Int} (h : t[i]? = some r) : r = rowOf t (i : Int) := by
  have hi := (List.getElem?_eq_some_iff.mp h).1
  have l := (S.row r (List.mem_of_getElem? h)).1
  unfold rowOf
  refine List.ext_getElem? fun j => ?_
  rw [List.getElem?_map]
  by_cases c : j < t.length
  · rw [rngI_get c]
    obtain ⟨_, _, r', w1, w2⟩ := S.at hi c
    rw [h] at w1
    cases w1
    rw [w2]; rfl
  · rw [List.getElem?_eq_none (by omega), List.getElem?_eq_none (by rw [rngI_len]; omega)]; rfl
/-- some of the rows, by their numbers -/
theorem pickRows {H : Hp} {ca : List Addr} {n : Nat} {F : Int → List Int} {ns : List Int} (R : Rows LstN H ca ((rngI n).map F)) (h : ∀ x ∈ ns, 0 ≤ x ∧ x < (n : Int)) : Rows LstN H (ns.map fun y => ca.getD y.toNat 0) (ns.map F) := by
  refine ⟨by rw [List.length_map, List.length_map], fun i a r h1 h2 => ?_⟩
  rw [List.getElem?_map] at h1 h2
  cases q : ns[i]? with
  | none => rw [q] at h1; cases h1
  | some y =>
    rw [q] at h1 h2
    cases h1
    cases h2
    obtain ⟨y0, y1⟩ := h y (List.mem_of_getElem? q)
    have l : y.toNat < ca.length := by rw [R.len, List.length_map, rngI_len]; omega
    have g1 : ca[y.toNat]? = some ca[y.toNat] := List.getElem?_eq_getElem l
    show LstN H (ca.getD y.toNat 0) _
    rw [getD_of g1]
    refine R.row y.toNat _ _ g1 ?_
    rw [List.getElem?_map, rngI_get (by omega), Option.map_some, Int.toNat_of_nonneg y0]
theorem pickVals {ca : List Addr} {ns : List Int} : (List.range ns.length).map (fun i => V.ref (ca.getD (ns.getD i 0).toNat 0)) = (ns.map fun y => ca.getD y.toNat 0).map V.ref := by
  rw [List.map_map]
  refine List.ext_getElem? fun i => ?_
  rw [List.getElem?_map, List.getElem?_map]
  by_cases c : i < ns.length
  · rw [List.getElem?_range c, List.getElem?_eq_getElem c, Option.map_some, getD_of (List.getElem?_eq_getElem c)]; rfl
  · rw [List.getElem?_eq_none (by simp; omega), List.getElem?_eq_none (by omega)]; rfl
theorem pickAt {ca : List Addr} {t : List (List Int)} {n : Nat} (l : ca.length = n) {y : Int} (y0 : 0 ≤ y) (y1 : y < (n : Int)) : (ca.map V.ref)[y.toNat]? = some (.ref (ca.getD y.toNat 0)) := by
  have g1 : ca[y.toNat]? = some (ca[y.toNat]'(by omega)) := List.getElem?_eq_getElem (by omega)
  rw [List.getElem?_map, g1, getD_of g1]; rfl
section
variable {P : Program} {w : World} {K : PySem.W.Frag} {mg : Str → Option Value} {base : Heap} {f : Addr} {fd : FuncData}
abbrev s_law : Stmt := (top 36)
theorem sc_law : FnScope ["script", "bag", "table", "size", "chosen", "k", "before", "behind", "many", "members", "product", "y", "x", "turned", "columns", "rows", "row", "group", "plain"] ["script"] (defScope s_law) := ⟨rfl, rfl, rfl, by decide +kernel, rfl, by decide +kernel, by decide +kernel⟩
theorem ok_law (F : FnP K "law" "law" s_law f fd) (T : Txt K mg) (D__law_bag : DOk P w K mg base CX0 "_law_bag" 1 ["script", "k"] (sp_bag K)) (D__law_take : DOk P w K mg base CX0 "_law_take" 1 ["bag", "size"] sp_take)
    (D__law_table : DOk P w K mg base CX0 "_law_table" 3 ["bag", "limit"] sp_table) (D__law_closed : DOk P w K mg base CX0 "_law_closed" 1 ["table", "members"] sp_closed) (D__law_widened : DOk P w K mg base CX0 "_law_widened" 1 ["row", "before", "behind"] sp_wid)
    (D__law_subgroup : DOk P w K mg base CX0 "_law_subgroup" 6 ["group", "members", "table"] (sp_lsub K)) (D__law_permuted : DOk P w K mg base CX0 "_law_permuted" 6 ["permutations", "many", "table", "due"] (sp_perm2 K))
    (D_from_permutations : DOkN P w K mg base CX0 "from_permutations" 4 ["permutations", "points"] 1 ["points"] (sp_fp K)) (D__law_pair_is : DOk P w K mg base CX0 "_law_pair_is" 5 ["told", "table", "due"] (sp_pair K))
    (D_subgroup_as_group : DOk P w K mg base CX0 "subgroup_as_group" 4 ["group", "members"] (sp_sg K)) (D__law_same : DOk P w K mg base CX0 "_law_same" 4 ["told", "due"] (sp_same 3))
    (D_Group : KOk P w K mg base (L2.CX P w) "Group" (gC K) 2 ["self", "table"] (sp_init K)) (M_eq : EqOk P w K mg base CX0 (gC K) 1 ["self", "other"] (sp_eq K)) :
    FnOk P w K mg base CX0 7 f fd ["script"] (sp_law K) := by
  refine F.ok sc_law (fun vs H Q E h => ?_) (fun cdv A outer s H vs Q E hr h => ?_)
  · obtain ⟨_, _, rfl, _⟩ := h; rfl
  obtain ⟨a, ns, rfl, hS, n63, kQ⟩ := h
  refine ⟨_, PSs.nox (pss_cons (ps_set (i := 1) sc_law.nd rfl (Or.inr rfl) (callX D__law_bag (hr.mono (by decide)) (passN) (pa_cons (pv 0) (pa_cons pe_int pa_nil))))
  (pss_cons (ps_set (i := 2) sc_law.nd rfl (Or.inr rfl) (callX D__law_table (hr.mono (by decide)) (passN) (pa_cons (pv 1) (pa_cons (pe_ix (Rk.ixL K) (pe_lst (pa_cons pe_int (pa_cons pe_int (pa_cons pe_int (pa_cons pe_int (pa_cons pe_int (pa_cons pe_int (pa_cons pe_int (pa_cons pe_int pa_nil))))))))) (callX D__law_take (hr.mono (by decide)) (passN) (pa_cons (pv 1) (pa_cons pe_int pa_nil))) (fun _ _ => rfl)) pa_nil))))
  (pss_cons (ps_set (i := 3) sc_law.nd rfl (Or.inr rfl) (pe_callB (Rk.len K) rfl T.len PySem.boot_len (pa_cons (pv 2) pa_nil)))
  (pss_cons (ps_set (i := 1) sc_law.nd rfl (Or.inr rfl) (callX D__law_bag (hr.mono (by decide)) (passN) (pa_cons (pv 0) (pa_cons pe_int pa_nil))))
  (pss_cons (ps_setLc (i := 4) (own := [("k", 5)]) rfl sc_law.nd rfl rfl (sw_true rfl rfl rfl (by decide +kernel)) (pi_range1 rfl T.range (pa_cons (pe_ix (Rk.ixL K) (pe_lst (pa_cons pe_int (pa_cons pe_int (pa_cons pe_int (pa_cons pe_int (pa_cons pe_int (pa_cons pe_int pa_nil))))))) (callX D__law_take (hr.mono (by decide)) (passN) (pa_cons (pv 1) (pa_cons pe_int pa_nil))) (fun _ _ => rfl)) pa_nil)) (blkOk_by (own := [("k", 5)]) (N := ["script", "bag", "table", "size", "chosen", "k", "before", "behind", "many", "members", "product", "y", "x", "turned", "columns", "rows", "row", "group", "plain"]) (sc := defScope s_law) (by decide +kernel)) (fun _ _ _ _ _ => (pg_name (i := 5) sc_law.nd rfl (Or.inl rfl))) (fun _ _ _ _ _ => pts_nil) (fun _ _ _ _ _ => (callX D__law_take (hr.mono (by decide)) (passN) (pa_cons (pv 1) (pa_cons (pv 3) pa_nil)))))
  (pss_cons (ps_set (i := 6) sc_law.nd rfl (Or.inr rfl) (callX D__law_take (hr.mono (by decide)) (passN) (pa_cons (pv 1) (pa_cons (pe_op op_sub pe_int (pv 3)) pa_nil))))
  (pss_cons (ps_set (i := 7) sc_law.nd rfl (Or.inr rfl) (callX D__law_take (hr.mono (by decide)) (passN) (pa_cons (pv 1) (pa_cons (pe_op op_sub (pe_op op_sub pe_int (pv 3)) (pv 6)) pa_nil))))
  (pss_cons (ps_set (i := 8) sc_law.nd rfl (Or.inl rfl) (pe_op op_add (pe_op op_add (pv 6) (pv 3)) (pv 7)))
  (pss_cons (ps_set (i := 9) sc_law.nd rfl (Or.inr rfl) (callX D__law_closed (hr.mono (by decide)) (passN) (pa_cons (pv 2) (pa_cons (pv 4) pa_nil))))
  (pss_cons (ps_setLc (i := 10) (own := [("x", 12)]) rfl sc_law.nd rfl rfl (sw_true rfl rfl rfl (by decide +kernel)) (Rk.pl K rfl (pv 9)) (blkOk_by (own := [("x", 12)]) (N := ["script", "bag", "table", "size", "chosen", "k", "before", "behind", "many", "members", "product", "y", "x", "turned", "columns", "rows", "row", "group", "plain"]) (sc := defScope s_law) (by decide +kernel)) (fun _ _ _ _ _ => (pg_name (i := 12) sc_law.nd rfl (Or.inr rfl))) (fun _ _ _ _ _ => pts_nil) (fun _ _ _ _ _ => (pe_lc (own := [("y", 11)]) rfl sc_law.nd (Rk.pl K rfl (pv 9)) (blkOk_by (own := [("y", 11)]) (N := ["script", "bag", "table", "size", "chosen", "k", "before", "behind", "many", "members", "product", "y", "x", "turned", "columns", "rows", "row", "group", "plain"]) (sc := (relS { kind := .function, names := [(".0", .local), ("x", .cell), ("members", .free), ("table", .free)], isGenerator := false, isCoroutine := false } (defScope s_law))) (by decide +kernel)) (fun _ _ _ _ _ => (pg_name (i := 11) sc_law.nd rfl (Or.inl rfl))) (fun _ _ _ _ _ => pts_nil) (fun _ _ _ _ _ => (Rk.bm K rfl PySem.F.plainAttrs_list PySem.F.slot_list_index PySem.F.type_list_index (Rk.index K) (pv 9) (pa_cons (pe_ix (Rk.ixL K) (pe_ix (Rk.ixL K) (pv 2) (pv 12) (fun _ _ => rfl)) (pv 11) (fun _ _ => rfl)) pa_nil))))))
  (pss_cons (ps_setLc (i := 13) (own := [("x", 12)]) rfl sc_law.nd rfl rfl (sw_true rfl rfl rfl (by decide +kernel)) (Rk.pl K rfl (pv 9)) (blkOk_by (own := [("x", 12)]) (N := ["script", "bag", "table", "size", "chosen", "k", "before", "behind", "many", "members", "product", "y", "x", "turned", "columns", "rows", "row", "group", "plain"]) (sc := defScope s_law) (by decide +kernel)) (fun _ _ _ _ _ => (pg_name (i := 12) sc_law.nd rfl (Or.inr rfl))) (fun _ _ _ _ _ => pts_nil) (fun _ _ _ _ _ => (pe_lc (own := [("y", 11)]) rfl sc_law.nd (Rk.pl K rfl (pv 9)) (blkOk_by (own := [("y", 11)]) (N := ["script", "bag", "table", "size", "chosen", "k", "before", "behind", "many", "members", "product", "y", "x", "turned", "columns", "rows", "row", "group", "plain"]) (sc := (relS { kind := .function, names := [(".0", .local), ("x", .cell), ("members", .free), ("table", .free)], isGenerator := false, isCoroutine := false } (defScope s_law))) (by decide +kernel)) (fun _ _ _ _ _ => (pg_name (i := 11) sc_law.nd rfl (Or.inl rfl))) (fun _ _ _ _ _ => pts_nil) (fun _ _ _ _ _ => (Rk.bm K rfl PySem.F.plainAttrs_list PySem.F.slot_list_index PySem.F.type_list_index (Rk.index K) (pv 9) (pa_cons (pe_ix (Rk.ixL K) (pe_ix (Rk.ixL K) (pv 2) (pv 11) (fun _ _ => rfl)) (pv 12) (fun _ _ => rfl)) pa_nil))))))
  (pss_cons (ps_set (i := 14) sc_law.nd rfl (Or.inr rfl) (pe_lst pa_nil))
  (pss_cons (ps_for PassesOwn.never rfl (pi_range1 rfl T.range (pa_cons (pv 3) pa_nil)) (pg_name (i := 11) sc_law.nd rfl (Or.inr rfl))
  (pss_one (ps_expr (Rk.bm K rfl PySem.F.plainAttrs_list PySem.F.slot_list_append PySem.F.type_list_append mt_append (pv 14) (pa_cons (callX D__law_widened (hr.mono (by decide)) (passN) (pa_cons (pe_lc (own := [("x", 12)]) rfl sc_law.nd (pi_range1 rfl T.range (pa_cons (pv 3) pa_nil)) (blkOk_by (own := [("x", 12)]) (N := ["script", "bag", "table", "size", "chosen", "k", "before", "behind", "many", "members", "product", "y", "x", "turned", "columns", "rows", "row", "group", "plain"]) (sc := defScope s_law) (by decide +kernel)) (fun _ _ _ _ _ => (pg_name (i := 12) sc_law.nd rfl (Or.inl rfl))) (fun _ _ _ _ _ => pts_nil) (fun _ _ _ _ _ => (pe_ix (Rk.ixL K) (pe_ix (Rk.ixL K) (pv 2) (pv 12) (fun _ _ => rfl)) (pv 11) (fun _ _ => rfl)))) (pa_cons (pv 6) (pa_cons (pv 7) pa_nil)))) pa_nil)))))
  (pss_cons (ps_set (i := 15) sc_law.nd rfl (Or.inr rfl) (pe_lc (own := [("row", 16)]) rfl sc_law.nd (Rk.pl K rfl (pv 2)) (blkOk_by (own := [("row", 16)]) (N := ["script", "bag", "table", "size", "chosen", "k", "before", "behind", "many", "members", "product", "y", "x", "turned", "columns", "rows", "row", "group", "plain"]) (sc := defScope s_law) (by decide +kernel)) (fun _ _ _ _ _ => (pg_name (i := 16) sc_law.nd rfl (Or.inl rfl))) (fun _ _ _ _ _ => pts_nil) (fun _ _ _ _ _ => (callX D__law_widened (hr.mono (by decide)) (passN) (pa_cons (pv 16) (pa_cons (pv 6) (pa_cons (pv 7) pa_nil)))))))
  (pss_cons (ps_set (i := 17) sc_law.nd rfl (Or.inl rfl) (makeX D_Group (hr.mono (by decide)) (passN) (pa_cons (pe_lc (own := [("row", 16)]) rfl sc_law.nd (Rk.pl K rfl (pv 2)) (blkOk_by (own := [("row", 16)]) (N := ["script", "bag", "table", "size", "chosen", "k", "before", "behind", "many", "members", "product", "y", "x", "turned", "columns", "rows", "row", "group", "plain"]) (sc := defScope s_law) (by decide +kernel)) (fun _ _ _ _ _ => (pg_name (i := 16) sc_law.nd rfl (Or.inl rfl))) (fun _ _ _ _ _ => pts_nil) (fun _ _ _ _ _ => (pe_callTy (Rk.lis K) rfl T.list (by decide +kernel) (pa_cons (pv 16) pa_nil)))) pa_nil)))
  (pss_cons (ps_if (pt_not (pt_val (callX D__law_subgroup (hr.mono (by decide)) (passN) (pa_cons (pv 17) (pa_cons (pv 9) (pa_cons (pv 10) pa_nil))))))
  (pss_one (ps_ret pe_bl))
  pss_nil)
  (pss_cons (ps_if (pt_not (pt_val (callX D__law_permuted (hr.mono (by decide)) (passN) (pa_cons (pe_lc (own := [("y", 11)]) rfl sc_law.nd (Rk.pl K rfl (pv 4)) (blkOk_by (own := [("y", 11)]) (N := ["script", "bag", "table", "size", "chosen", "k", "before", "behind", "many", "members", "product", "y", "x", "turned", "columns", "rows", "row", "group", "plain"]) (sc := defScope s_law) (by decide +kernel)) (fun _ _ _ _ _ => (pg_name (i := 11) sc_law.nd rfl (Or.inl rfl))) (fun _ _ _ _ _ => pts_nil) (fun _ _ _ _ _ => (pe_ix (Rk.ixL K) (pv 14) (pv 11) (fun _ _ => rfl)))) (pa_cons (pv 8) (pa_cons (pv 10) (pa_cons (pe_lc (own := [("y", 11)]) rfl sc_law.nd (Rk.pl K rfl (pv 9)) (blkOk_by (own := [("y", 11)]) (N := ["script", "bag", "table", "size", "chosen", "k", "before", "behind", "many", "members", "product", "y", "x", "turned", "columns", "rows", "row", "group", "plain"]) (sc := defScope s_law) (by decide +kernel)) (fun _ _ _ _ _ => (pg_name (i := 11) sc_law.nd rfl (Or.inl rfl))) (fun _ _ _ _ _ => pts_nil) (fun _ _ _ _ _ => (pe_ix (Rk.ixL K) (pv 14) (pv 11) (fun _ _ => rfl)))) pa_nil)))))))
  (pss_one (ps_ret pe_bl))
  pss_nil)
  (pss_cons (ps_if (pt_not (pt_val (callX D__law_permuted (hr.mono (by decide)) (passN) (pa_cons (pe_lc (own := [("x", 12)]) rfl sc_law.nd (Rk.pl K rfl (pv 4)) (blkOk_by (own := [("x", 12)]) (N := ["script", "bag", "table", "size", "chosen", "k", "before", "behind", "many", "members", "product", "y", "x", "turned", "columns", "rows", "row", "group", "plain"]) (sc := defScope s_law) (by decide +kernel)) (fun _ _ _ _ _ => (pg_name (i := 12) sc_law.nd rfl (Or.inl rfl))) (fun _ _ _ _ _ => pts_nil) (fun _ _ _ _ _ => (pe_ix (Rk.ixL K) (pv 15) (pv 12) (fun _ _ => rfl)))) (pa_cons (pv 8) (pa_cons (pv 13) (pa_cons (pe_lc (own := [("x", 12)]) rfl sc_law.nd (Rk.pl K rfl (pv 9)) (blkOk_by (own := [("x", 12)]) (N := ["script", "bag", "table", "size", "chosen", "k", "before", "behind", "many", "members", "product", "y", "x", "turned", "columns", "rows", "row", "group", "plain"]) (sc := defScope s_law) (by decide +kernel)) (fun _ _ _ _ _ => (pg_name (i := 12) sc_law.nd rfl (Or.inl rfl))) (fun _ _ _ _ _ => pts_nil) (fun _ _ _ _ _ => (pe_ix (Rk.ixL K) (pv 15) (pv 12) (fun _ _ => rfl)))) pa_nil)))))))
  (pss_one (ps_ret pe_bl))
  pss_nil)
  (pss_cons (ps_set (i := 18) sc_law.nd rfl (Or.inl rfl) (callXN D_from_permutations (hr.mono (by decide)) (passN) (pa_cons (pe_lc (own := [("y", 11)]) rfl sc_law.nd (Rk.pl K rfl (pv 4)) (blkOk_by (own := [("y", 11)]) (N := ["script", "bag", "table", "size", "chosen", "k", "before", "behind", "many", "members", "product", "y", "x", "turned", "columns", "rows", "row", "group", "plain"]) (sc := defScope s_law) (by decide +kernel)) (fun _ _ _ _ _ => (pg_name (i := 11) sc_law.nd rfl (Or.inr rfl))) (fun _ _ _ _ _ => pts_nil) (fun _ _ _ _ _ => (pe_lc (own := [("x", 12)]) rfl sc_law.nd (pi_range1 rfl T.range (pa_cons (pv 3) pa_nil)) (blkOk_by (own := [("x", 12)]) (N := ["script", "bag", "table", "size", "chosen", "k", "before", "behind", "many", "members", "product", "y", "x", "turned", "columns", "rows", "row", "group", "plain"]) (sc := (relS { kind := .function, names := [(".0", .local), ("y", .cell), ("range", .globalImplicit), ("size", .free), ("table", .free)], isGenerator := false, isCoroutine := false } (defScope s_law))) (by decide +kernel)) (fun _ _ _ _ _ => (pg_name (i := 12) sc_law.nd rfl (Or.inl rfl))) (fun _ _ _ _ _ => pts_nil) (fun _ _ _ _ _ => (pe_ix (Rk.ixL K) (pe_ix (Rk.ixL K) (pv 2) (pv 12) (fun _ _ => rfl)) (pv 11) (fun _ _ => rfl)))))) pa_nil) (pk_cons (pv 3) pk_nil)))
  (pss_cons (ps_if (pt_not (pt_val (callX D__law_pair_is (hr.mono (by decide)) (passN) (pa_cons (pv 18) (pa_cons (pv 10) (pa_cons (pe_lc (own := [("y", 11)]) rfl sc_law.nd (Rk.pl K rfl (pv 9)) (blkOk_by (own := [("y", 11)]) (N := ["script", "bag", "table", "size", "chosen", "k", "before", "behind", "many", "members", "product", "y", "x", "turned", "columns", "rows", "row", "group", "plain"]) (sc := defScope s_law) (by decide +kernel)) (fun _ _ _ _ _ => (pg_name (i := 11) sc_law.nd rfl (Or.inr rfl))) (fun _ _ _ _ _ => pts_nil) (fun _ _ _ _ _ => (pe_lc (own := [("x", 12)]) rfl sc_law.nd (pi_range1 rfl T.range (pa_cons (pv 3) pa_nil)) (blkOk_by (own := [("x", 12)]) (N := ["script", "bag", "table", "size", "chosen", "k", "before", "behind", "many", "members", "product", "y", "x", "turned", "columns", "rows", "row", "group", "plain"]) (sc := (relS { kind := .function, names := [(".0", .local), ("y", .cell), ("range", .globalImplicit), ("size", .free), ("table", .free)], isGenerator := false, isCoroutine := false } (defScope s_law))) (by decide +kernel)) (fun _ _ _ _ _ => (pg_name (i := 12) sc_law.nd rfl (Or.inl rfl))) (fun _ _ _ _ _ => pts_nil) (fun _ _ _ _ _ => (pe_ix (Rk.ixL K) (pe_ix (Rk.ixL K) (pv 2) (pv 12) (fun _ _ => rfl)) (pv 11) (fun _ _ => rfl)))))) pa_nil))))))
  (pss_one (ps_ret pe_bl))
  pss_nil)
  (pss_one (ps_ret (callX D__law_same (hr.mono (by decide)) (passN) (pa_cons (pe_cmpR (op_insEq M_eq (hr.mono (by decide)) passN) (pe_ix (Rk.ixT K) (pv 18) pe_int (fun _ _ => rfl)) (pe_ix (Rk.ixT K) (callX D_subgroup_as_group (hr.mono (by decide)) (passN) (pa_cons (pv 17) (pa_cons (pe_callTy (Rk.lis K) rfl T.list (by decide +kernel) (pa_cons (pv 9) pa_nil)) pa_nil))) pe_int (fun _ _ => rfl)) (nomark _)) (pa_cons pe_bl pa_nil))))))))))))))))))))))))), ?_⟩
  walk_at "st"
  refine ⟨a, ns, 0, rfl, hS, by decide, by decide, fun b0 H1 hb00 e1 hb0 => ?_⟩
  walk_at "st"
  refine ⟨(by decide : 8 ≤ sizeLine), fun lp hlp => ?_⟩
  have e2 : Same H1 (upd H1 lp (.lst [.int 1, .int 2, .int 8, .int 12, .int 12, .int 12, .int 12, .int 12])) := Rd.same_mk hlp
  have hL2 : (upd H1 lp (.lst [.int 1, .int 2, .int 8, .int 12, .int 12, .int 12, .int 12, .int 12])) lp = some (.lst (([1, 2, 8, 12, 12, 12, 12, 12] : List Int).map V.int)) := upd_same
  generalize upd H1 lp (.lst [.int 1, .int 2, .int 8, .int 12, .int 12, .int 12, .int 12, .int 12]) = H2 at e2 hL2
  have nb0 := hb0.ne hlp
  walk_at "st"
  refine ⟨b0, 8, rfl, by decide, by decide, hb0.same e2, fun v H3 v0 v1 hb3 e3 => ?_⟩
  have hL3 := e3 lp _ nb0.symm hL2
  obtain ⟨m, hm⟩ : ∃ m, ([1, 2, 8, 12, 12, 12, 12, 12] : List Int)[v.toNat]? = some m := ⟨_, List.getElem?_eq_getElem (by show v.toNat < 8; omega)⟩
  have mb : 1 ≤ m ∧ m ≤ 12 := (by decide : ∀ x ∈ ([1, 2, 8, 12, 12, 12, 12, 12] : List Int), 1 ≤ x ∧ x ≤ 12) m (List.mem_of_getElem? hm)
  refine Rd.ixL (SqL.of hL3) (at_of (j := v.toNat) (by omega) (map_get_int hm)) ?_
  refine ⟨b0, m, rfl, mb.1, by omega, hb3, fun t tp H4 D tl hb4 e4 X4 => ?_⟩
  have G := D.grp
  have S := G.sq
  have tpos := S.pos
  have sH4 : Same H H4 := fun c o h => by
    have nc : c ≠ b0 := fun z => by rw [z, hb00] at h; cases h
    exact e4 c o nc (e3 c o nc (e2 c o (e1 c o h)))
  obtain ⟨as4, a41, a42, a43, a44⟩ := X4.ob
  walk_at "st"
  refine Rd.len1 (.inl (SqL.of a41)) ?_
  walk_at "st"
  rw [List.length_map, a42.len]
  refine ⟨a, ns, 1, rfl, Same.seq sH4 hS, by decide, by decide, fun b H5 hb50 e5 hb5 => ?_⟩
  have X5 : TabO H5 tp t b := ⟨as4, e5 _ _ a41, a42.sameL e5, ne_of_none a41 hb50, fun z hz => by
    obtain ⟨i, hi⟩ := List.getElem?_of_mem hz
    obtain ⟨z', r, k1, k2, k3⟩ := a42.get (i := i) (by rw [← a42.len]; exact (List.getElem?_eq_some_iff.mp hi).1)
    rw [hi] at k1
    cases k1
    exact ne_of_none k3 hb50⟩
  walk_at "st"
  refine ⟨(by decide : 6 ≤ sizeLine), fun lq hlq => ?_⟩
  have e6 : Same H5 (upd H5 lq (.lst [.int 0, .int 1, .int 2, .int 2, .int 3, .int 4])) := Rd.same_mk hlq
  have hL6 : (upd H5 lq (.lst [.int 0, .int 1, .int 2, .int 2, .int 3, .int 4])) lq = some (.lst (([0, 1, 2, 2, 3, 4] : List Int).map V.int)) := upd_same
  generalize upd H5 lq (.lst [.int 0, .int 1, .int 2, .int 2, .int 3, .int 4]) = H6 at e6 hL6
  have nbq := hb5.ne hlq
  walk_at "st"
  refine ⟨b, 6, rfl, by decide, by decide, hb5.same e6, fun v2 H7 w0 w1 hb7 e7 => ?_⟩
  have hL7 := e7 lq _ nbq.symm hL6
  obtain ⟨q, hq⟩ : ∃ q, ([0, 1, 2, 2, 3, 4] : List Int)[v2.toNat]? = some q := ⟨_, List.getElem?_eq_getElem (by show v2.toNat < 6; omega)⟩
  have qb : 0 ≤ q ∧ q ≤ 4 := (by decide : ∀ x ∈ ([0, 1, 2, 2, 3, 4] : List Int), 0 ≤ x ∧ x ≤ 4) q (List.mem_of_getElem? hq)
  refine Rd.ixL (SqL.of hL7) (at_of (j := v2.toNat) (by omega) (map_get_int hq)) ?_
  refine Rd.rng1' (by omega) (by omega) ?_
  refine lcBag (b := b) (N := (t.length : Int)) hb7 (by omega) (by intro _; rfl) (fun z H8 Q1 hb8 q1 => ?_) (fun cl cs H8 hcl lcs rcs hb8 e8 hC => ?_)
  · walk_at "st"
    exact ⟨b, _, rfl, by omega, by omega, hb8, fun v H9 z0 z1 hb9 e9 => q1 v H9 z0 z1 hb9 e9⟩
  have e58 : But b H5 H8 := ((Rd.But.of e6).trans e7).trans e8
  have ncb : cl ≠ b := (hb7.ne hcl).symm
  walk_at "st"
  refine ⟨b, _, rfl, by omega, by omega, hb8, fun bf H9 bf0 bf1 hb9 e9 => ?_⟩
  walk_at "st"
  refine ⟨b, _, rfl, by omega, by omega, hb9, fun bh H10 bh0 bh1 hb10 e10 => ?_⟩
  have X10 := (X5.but ((e58.trans e9).trans e10)).tab
  have hC10 := e10 cl _ ncb (e9 cl _ ncb hC)
  obtain ⟨bn, rfl⟩ : ∃ bn : Nat, bf = (bn : Int) := ⟨bf.toNat, by omega⟩
  obtain ⟨hn, rfl⟩ : ∃ hn : Nat, bh = (hn : Int) := ⟨bh.toNat, by omega⟩
  clear e1 e2 e3 e4 e5 e6 e7 e8 e9 e10
  walk_at "st"
  refine ⟨tp, cl, t, cs, rfl, X10, S, by omega, hC10, rcs, fun ml ms H11 CL hml e11 hM => ?_⟩
  have SG : SubG t cs ms := ⟨fun x hx => rcs x hx, CL⟩
  have mle := SG.le G
  have min_ := SG.in_ G
  have X11 := X10.same e11
  have hC11 := e11 _ _ hC10
  walk_at "st"
  refine Rd.itl' (SqL.of hM) ?_
  refine Rd.lcNew (fun i o => o = .lst (((tabOf (mi t) ms).getD i []).map V.int)) (Rd.src_list (SqL.of hM)) (by rw [List.length_map]; omega) (by intro _; rfl) (fun i y H4 Q1 hy e4 q1 => ?_) (fun tb ra H12 htb e12 h6 lra hra nd => ?_)
  · obtain ⟨x, hx, rfl⟩ := intAt hy
    have xm := List.mem_of_getElem? hx
    rw [tabOf_row (f := mi t) hx] at q1
    walk_at "st"
    refine Rd.itl' (SqL.of (e4 _ _ hM)) ?_
    refine Rd.lcMap (fun j => .int ((ms.idxOf (mi t x (ms.getD j 0)) : Nat) : Int)) (Rd.src_list (SqL.of (e4 _ _ hM))) (by rw [List.length_map]; omega) (by intro _; rfl) (fun j y H5 Q2 hy2 e5 q2 => ?_) (fun rp H5 hrp e5 h9 => ?_)
    · obtain ⟨y, hy, rfl⟩ := intAt hy2
      have ym := List.mem_of_getElem? hy
      rw [getD_of hy] at q2
      have e6 := e4.trans e5
      obtain ⟨xs, ax, rs, k1, k2, k3, k4⟩ := (X11.same e6).cellI (K := K) S (min_ x xm) (min_ y ym)
      walk_at "st"
      refine Rd.tyL (e6 _ _ hM) ?_
      walk_at "st"
      refine Rd.ixL k1 k2 ?_
      walk_at "st"
      refine Rd.ixL k3 k4 ?_
      exact indexI (SqL.of (e6 _ _ hM)) (SG.mul G x xm y ym) (q2 _ (Same.refl _))
    · refine q1 rp _ _ hrp e5 h9 ?_
      rw [List.length_map]
      congr 1
      refine tab_row (by rw [List.length_map]) fun j hj => ?_
      rw [List.getElem?_map, List.getElem?_eq_getElem hj, getD_of (List.getElem?_eq_getElem hj)]; rfl
  have XP : TabAt H12 tb (tabOf (mi t) ms) := (TabN.made htb h6 (by rw [lra, List.length_map, tabOf_len]) hra nd).tab
  clear h6 lra hra nd
  have X12 := X11.same e12
  have hM12 := e12 _ _ hM
  have hC12 := e12 _ _ hC11
  walk_at "st"
  refine Rd.itl' (SqL.of hM12) ?_
  refine Rd.lcNew (fun i o => o = .lst (((tabOf (fun x y => mi t y x) ms).getD i []).map V.int)) (Rd.src_list (SqL.of hM12)) (by rw [List.length_map]; omega) (by intro _; rfl) (fun i y H4 Q1 hy e4 q1 => ?_) (fun ub ra H13 hub e13 h6 lra hra nd => ?_)
  · obtain ⟨x, hx, rfl⟩ := intAt hy
    have xm := List.mem_of_getElem? hx
    rw [tabOf_row (f := fun x y => mi t y x) hx] at q1
    walk_at "st"
    refine Rd.itl' (SqL.of (e4 _ _ hM12)) ?_
    refine Rd.lcMap (fun j => .int ((ms.idxOf (mi t (ms.getD j 0) x) : Nat) : Int)) (Rd.src_list (SqL.of (e4 _ _ hM12))) (by rw [List.length_map]; omega) (by intro _; rfl) (fun j y H5 Q2 hy2 e5 q2 => ?_) (fun rp H5 hrp e5 h9 => ?_)
    · obtain ⟨y, hy, rfl⟩ := intAt hy2
      have ym := List.mem_of_getElem? hy
      rw [getD_of hy] at q2
      have e6 := e4.trans e5
      obtain ⟨xs, ax, rs, k1, k2, k3, k4⟩ := (X12.same e6).cellI (K := K) S (min_ y ym) (min_ x xm)
      walk_at "st"
      refine Rd.tyL (e6 _ _ hM12) ?_
      walk_at "st"
      refine Rd.ixL k1 k2 ?_
      walk_at "st"
      refine Rd.ixL k3 k4 ?_
      exact indexI (SqL.of (e6 _ _ hM12)) (SG.mul G y ym x xm) (q2 _ (Same.refl _))
    · refine q1 rp _ _ hrp e5 h9 ?_
      rw [List.length_map]
      congr 1
      refine tab_row (by rw [List.length_map]) fun j hj => ?_
      rw [List.getElem?_map, List.getElem?_eq_getElem hj, getD_of (List.getElem?_eq_getElem hj)]; rfl
  have XU : TabAt H13 ub (tabOf (fun x y => mi t y x) ms) := (TabN.made hub h6 (by rw [lra, List.length_map, tabOf_len]) hra nd).tab
  clear h6 lra hra nd
  have XP := XP.same e13
  have X13 := X12.same e13
  have hM13 := e13 _ _ hM12
  have hC13 := e13 _ _ hC12
  walk_at "st"
  refine ⟨Nat.zero_le _, fun co hco => ?_⟩
  have XC0 : TabN H13 (upd H13 co (.lst [])) co [] := TabN.nil hco
  walk_at "st"
  refine ⟨by omega, by omega, ?_⟩
  refine for_range (fun i σ H' => ∃ (v : Option V), σ = [some (.ref a), some (.ref b), some (.ref tp), some (.int (t.length : Nat)), some (.ref cl), none, some (.int (bn : Nat)), some (.int (hn : Nat)), some (.int ((bn : Int) + (t.length : Int) + (hn : Int))), some (.ref ml), some (.ref tb), v, none, some (.ref ub), some (.ref co), none, none, none, none] ∧ Same H13 H' ∧ TabN H13 H' co ((rngI i).map fun y => widen bn hn (colOf t y)))
    ⟨none, rfl, Rd.same_mk hco, XC0⟩ ?_ ?_
  · rintro i σ H14 hi ⟨v, rfl, e14, XC⟩
    have iT : InT t (i : Int) := ⟨by omega, by omega⟩
    obtain ⟨ca, c1, c2, c3, c4⟩ := XC.ob
    have cl_ : ca.length = i := by rw [c2.len, List.length_map, rngI_len]
    rw [Int.zero_add]
    walk_at "st"
    refine Rd.tyL c1 ?_
    walk_at "st"
    refine ⟨by omega, by omega, ?_⟩
    refine Rd.lcMap (fun x => .int (mi t (x : Nat) (i : Nat))) (Rd.src_rng 0 _ H14) (by rw [Rd.rgL_len]; omega) (by intro _; rfl) (fun x y H15 Q1 hy e15 q1 => ?_) (fun rp H15 hrp e15 h9 => ?_)
    · have hx : x < t.length := by
        have := (List.getElem?_eq_some_iff.mp hy).1
        rw [Rd.rgL_len] at this
        omega
      rw [Rd.rgL_get (by omega), Int.zero_add] at hy
      cases hy
      obtain ⟨xs, ax, rs, k1, k2, k3, k4⟩ := (X13.same (e14.trans e15)).cellI (K := K) S (x := (x : Nat)) ⟨by omega, by omega⟩ iT
      walk_at "st"
      refine Rd.ixL k1 k2 ?_
      walk_at "st"
      refine Rd.ixL k3 k4 ?_
      exact q1 _ (Same.refl _)
    · have hcol : H15 rp = some (.lst ((colOf t (i : Int)).map V.int)) := by
        rw [h9, Rd.rgL_len]
        congr 2
        refine tab_row (by rw [col_len]; omega) fun j hj => ?_
        unfold colOf
        rw [List.getElem?_map, rngI_get (by omega)]; rfl
      walk_at "st"
      refine ⟨rp, colOf t (i : Int), bn, hn, rfl, hcol, by rw [col_len]; omega, by omega, by omega, fun l H16 hl e16 hW => ?_⟩
      have e1416 := e15.trans e16
      walk_at "st"
      refine Rd.app (e1416 _ _ c1) (by rw [List.length_map, cl_]; exact line_of (by omega)) ?_
      have XC2 := XC.add c1 (Same.free e15 hl) (Same.free e14 (Same.free e15 hl)) e1416 hW
      rw [show List.map V.ref ca ++ [V.ref l] = (ca ++ [l]).map V.ref by rw [List.map_append]; rfl]
      walk_at "st"
      refine ⟨_, rfl, Rd.same_mut (e14.trans e1416) hco, ?_⟩
      have em : (rngI (i + 1)).map (fun y => widen bn hn (colOf t y)) = (rngI i).map (fun y => widen bn hn (colOf t y)) ++ [widen bn hn (colOf t (i : Int))] := by
        rw [show rngI (i + 1) = rngI i ++ [(i : Int)] by unfold rngI; rw [List.range_succ, List.map_append]; rfl, List.map_append]; rfl
      rw [em]
      exact XC2
  · rintro σ H14 ⟨v, rfl, e14, XC⟩
    rw [show (t.length : Int).toNat = t.length from rfl] at XC
    obtain ⟨ca, c1, c2, c3, c4⟩ := XC.ob
    have X14 := X13.same e14
    obtain ⟨ta, t1, t2⟩ := X14.ob
    walk_at "st"
    refine Rd.itl' (SqL.of t1) ?_
    refine Rd.lcNew (fun i o => o = .lst ((((rngI t.length).map fun y => widen bn hn (rowOf t y)).getD i []).map V.int)) (Rd.src_list (SqL.of t1)) (by rw [List.length_map, t2.len]; omega) (by intro _; rfl) (fun i y H15 Q1 hy e15 q1 => ?_) (fun ro ra H15 hro e15 h6 lra hra nd => ?_)
    · obtain ⟨z, r, rfl, g1, g2, g3⟩ := t2.at hy
      have hi := (List.getElem?_eq_some_iff.mp g2).1
      have er := row_of S g2
      have lr := (S.row r (List.mem_of_getElem? g2)).1
      walk_at "st"
      refine ⟨z, r, bn, hn, rfl, e15 _ _ g3, by omega, by omega, by omega, fun l H16 hl e16 hW => ?_⟩
      refine q1 l _ _ hl e16 hW ?_
      rw [getD_of (x := widen bn hn (rowOf t (i : Int))) (by rw [List.getElem?_map, rngI_get hi]; rfl), er]
    have XR : TabN H14 H15 ro ((rngI t.length).map fun y => widen bn hn (rowOf t y)) := TabN.made hro h6 (by rw [lra, List.length_map, t2.len, List.length_map, rngI_len]) hra nd
    clear h6 lra hra nd
    obtain ⟨rb, r1, r2, r3, r4⟩ := XR.ob
    have X15 := X14.same e15
    obtain ⟨tc, t3, t4⟩ := X15.ob
    walk_at "st"
    refine Rd.itl' (SqL.of t3) ?_
    refine Rd.lcNew (fun i o => o = .lst ((t.getD i []).map V.int)) (Rd.src_list (SqL.of t3)) (by rw [List.length_map, t4.len]; omega) (by intro _; rfl) (fun i y H16 Q1 hy e16 q1 => ?_) (fun go ra H16 hgo e16 h6 lra hra nd => ?_)
    · obtain ⟨z, r, rfl, g1, g2, g3⟩ := t4.at hy
      rw [getD_of g2] at q1
      walk_at "st"
      exact ⟨z, _, rfl, .inl (SqL.of (e16 _ _ g3)), fun l hl => q1 l _ _ hl (Rd.same_mk hl) upd_same rfl⟩
    have XG : TabN H15 H16 go t := TabN.made hgo h6 (by rw [lra, List.length_map, t4.len]) hra nd
    clear h6 lra hra nd
    obtain ⟨gb, g1, g2, g3, g4⟩ := XG.ob
    walk_at "st"
    intro g dx hg hdx ndx
    have k1 : Same H16 (upd (upd H16 dx (.own g)) g (.ins (gC K) dx [])) := (Rd.same_mk hdx).trans (Rd.same_mk (by rw [upd_ne ndx.symm]; exact hg))
    have hgi : (upd (upd H16 dx (.own g)) g (.ins (gC K) dx [])) g = some (.ins (gC K) dx []) := upd_same
    generalize upd (upd H16 dx (.own g)) g (.ins (gC K) dx []) = H17 at k1 hgi
    refine ⟨g, dx, go, gb, t, rfl, hgi, k1 _ _ g1, g2.sameL k1, by omega, fun h => absurd h (by omega), fun _ nG => absurd G nG, fun _ _ H18 k2 GA => ⟨rfl, ?_⟩⟩
    have e18 : Same H16 H18 := fun c o h => k2 c o (fun z => by rw [z, hg] at h; cases h) (k1 c o h)
    have f15 : Same H15 H18 := e16.trans e18
    have f14 : Same H14 H18 := e15.trans f15
    have f13 : Same H13 H18 := e14.trans f14
    walk_at "st"
    refine ⟨g, ml, tb, t, cs, ms, rfl, GA, f13 _ _ hM13, SG, XP.same f13, fun H19 e19 => ?_⟩
    have f13 := f13.trans e19
    have f14 := f14.trans e19
    have f15 := f15.trans e19
    have GA := GA.same e19
    walk_at "st"
    refine (if_neg Bool.false_ne_true).mpr ?_
    have csm : ∀ x ∈ cs, 0 ≤ x ∧ x < (t.length : Int) := rcs
    have msm : ∀ x ∈ ms, 0 ≤ x ∧ x < (t.length : Int) := fun x hx => min_ x hx
    have cal : ca.length = t.length := by rw [c2.len, List.length_map, rngI_len]
    have rbl : rb.length = t.length := by rw [r2.len, List.length_map, rngI_len]
    have many : (bn : Int) + (t.length : Int) + (hn : Int) = ((bn + t.length + hn : Nat) : Int) := by omega
    rw [many]
    have cz : cs.length ≤ 4 := by omega
    -- the columns
    walk_at "st"
    refine Rd.itl' (SqL.of (f13 _ _ hC13)) ?_
    refine Rd.lcMap (fun i => .ref (ca.getD (cs.getD i 0).toNat 0)) (Rd.src_list (SqL.of (f13 _ _ hC13))) (by rw [List.length_map]; omega) (by intro _; rfl) (fun i y H20 Q1 hy e20 q1 => ?_) (fun p1 H20 hp1 e20 hP1 => ?_)
    · obtain ⟨x, hx, rfl⟩ := intAt hy
      obtain ⟨x0, x1⟩ := csm x (List.mem_of_getElem? hx)
      rw [getD_of hx] at q1
      walk_at "st"
      refine Rd.ixL (SqL.of (e20 _ _ (f14 _ _ c1))) (at_of (j := x.toNat) (by omega) (pickAt (t := t) cal x0 x1)) ?_
      exact q1 _ (Same.refl _)
    rw [List.length_map, pickVals] at hP1
    have f13 := f13.trans e20
    have f14 := f14.trans e20
    have f15 := f15.trans e20
    have GA := GA.same e20
    walk_at "st"
    refine Rd.itl' (SqL.of (f13 _ _ hM13)) ?_
    refine Rd.lcMap (fun i => .ref (ca.getD (ms.getD i 0).toNat 0)) (Rd.src_list (SqL.of (f13 _ _ hM13))) (by rw [List.length_map]; omega) (by intro _; rfl) (fun i y H21 Q1 hy e21 q1 => ?_) (fun p2 H21 hp2 e21 hP2 => ?_)
    · obtain ⟨x, hx, rfl⟩ := intAt hy
      obtain ⟨x0, x1⟩ := msm x (List.mem_of_getElem? hx)
      rw [getD_of hx] at q1
      walk_at "st"
      refine Rd.ixL (SqL.of (e21 _ _ (f14 _ _ c1))) (at_of (j := x.toNat) (by omega) (pickAt (t := t) cal x0 x1)) ?_
      exact q1 _ (Same.refl _)
    rw [List.length_map, pickVals] at hP2
    have hP1 := e21 _ _ hP1
    have f13 := f13.trans e21
    have f14 := f14.trans e21
    have f15 := f15.trans e21
    have GA := GA.same e21
    have tc_ : tabOf cmp2 (ms.map fun y => widen bn hn (colOf t y)) = tabOf (mi t) ms := SG.tabCols G bn hn
    refine ⟨p1, tb, p2, _, cs.map fun y => widen bn hn (colOf t y), ms.map fun y => widen bn hn (colOf t y), bn + t.length + hn, rfl, hP1, pickRows (c2.sameL f14) csm, by rw [List.length_map]; omega, by omega, fun p hp => ?_, SG.cols G bn hn, by rw [List.length_map]; omega, by rw [tc_]; exact SG.grp G,
      by rw [tc_]; exact XP.same f13, ⟨_, hP2, pickRows (c2.sameL f14) msm⟩, fun H22 e22 => ?_⟩
    · obtain ⟨y, hy, rfl⟩ := List.mem_map.mp hp
      exact widen_perm (G.col_perm (csm y hy))
    have f13 := f13.trans e22
    have f14 := f14.trans e22
    have f15 := f15.trans e22
    have GA := GA.same e22
    clear hP1 hP2 hp1 hp2
    walk_at "st"
    refine (if_neg Bool.false_ne_true).mpr ?_
    -- the rows
    walk_at "st"
    refine Rd.itl' (SqL.of (f13 _ _ hC13)) ?_
    refine Rd.lcMap (fun i => .ref (rb.getD (cs.getD i 0).toNat 0)) (Rd.src_list (SqL.of (f13 _ _ hC13))) (by rw [List.length_map]; omega) (by intro _; rfl) (fun i y H20 Q1 hy e20 q1 => ?_) (fun p1 H23 hp1 e23 hP1 => ?_)
    · obtain ⟨x, hx, rfl⟩ := intAt hy
      obtain ⟨x0, x1⟩ := csm x (List.mem_of_getElem? hx)
      rw [getD_of hx] at q1
      walk_at "st"
      refine Rd.ixL (SqL.of (e20 _ _ (f15 _ _ r1))) (at_of (j := x.toNat) (by omega) (pickAt (t := t) rbl x0 x1)) ?_
      exact q1 _ (Same.refl _)
    rw [List.length_map, pickVals] at hP1
    have f13 := f13.trans e23
    have f15 := f15.trans e23
    have GA := GA.same e23
    walk_at "st"
    refine Rd.itl' (SqL.of (f13 _ _ hM13)) ?_
    refine Rd.lcMap (fun i => .ref (rb.getD (ms.getD i 0).toNat 0)) (Rd.src_list (SqL.of (f13 _ _ hM13))) (by rw [List.length_map]; omega) (by intro _; rfl) (fun i y H21 Q1 hy e21 q1 => ?_) (fun p2 H24 hp2 e24 hP2 => ?_)
    · obtain ⟨x, hx, rfl⟩ := intAt hy
      obtain ⟨x0, x1⟩ := msm x (List.mem_of_getElem? hx)
      rw [getD_of hx] at q1
      walk_at "st"
      refine Rd.ixL (SqL.of (e21 _ _ (f15 _ _ r1))) (at_of (j := x.toNat) (by omega) (pickAt (t := t) rbl x0 x1)) ?_
      exact q1 _ (Same.refl _)
    rw [List.length_map, pickVals] at hP2
    have hP1 := e24 _ _ hP1
    have f13 := f13.trans e24
    have f15 := f15.trans e24
    have GA := GA.same e24
    have tr_ : tabOf cmp2 (ms.map fun y => widen bn hn (rowOf t y)) = tabOf (fun x y => mi t y x) ms := SG.tabRows G bn hn
    refine ⟨p1, ub, p2, _, cs.map fun y => widen bn hn (rowOf t y), ms.map fun y => widen bn hn (rowOf t y), bn + t.length + hn, rfl, hP1, pickRows (r2.sameL f15) csm, by rw [List.length_map]; omega, by omega, fun p hp => ?_, SG.rows G bn hn, by rw [List.length_map]; omega, by rw [tr_]; exact SG.grpT G,
      by rw [tr_]; exact XU.same f13, ⟨_, hP2, pickRows (r2.sameL f15) msm⟩, fun H25 e25 => ?_⟩
    · obtain ⟨y, hy, rfl⟩ := List.mem_map.mp hp
      exact widen_perm (G.row_perm (csm y hy))
    have f13 := f13.trans e25
    have GA := GA.same e25
    clear hP1 hP2 hp1 hp2
    walk_at "st"
    refine (if_neg Bool.false_ne_true).mpr ?_
    -- the plain columns
    have colList : ∀ (ls : List Int), (∀ x ∈ ls, 0 ≤ x ∧ x < (t.length : Int)) → ∀ (i : Nat) (x : Int), ls[i]? = some x → (ls.map (colOf t)).getD i [] = colOf t x := fun ls _ i x hx => getD_of (by rw [List.getElem?_map, hx]; rfl)
    have colV : ∀ x : Int, (List.range (Rd.rgL 0 (t.length : Int).toNat).length).map (fun j => V.int (mi t (j : Nat) x)) = (colOf t x).map V.int := fun x => by
      rw [Rd.rgL_len]
      refine tab_row (by rw [col_len]; rfl) fun j hj => ?_
      unfold colOf
      rw [List.getElem?_map, rngI_get (by omega)]; rfl
    walk_at "st"
    refine Rd.itl' (SqL.of (f13 _ _ hC13)) ?_
    refine Rd.lcNew (fun i o => o = .lst (((cs.map (colOf t)).getD i []).map V.int)) (Rd.src_list (SqL.of (f13 _ _ hC13))) (by rw [List.length_map]; omega) (by intro _; rfl) (fun i y H26 Q1 hy e26 q1 => ?_) (fun p3 ra H26 hp3 e26 h6 lra hra nd => ?_)
    · obtain ⟨x, hx, rfl⟩ := intAt hy
      have xT := csm x (List.mem_of_getElem? hx)
      rw [colList cs csm i x hx] at q1
      walk_at "st"
      refine ⟨by omega, by omega, ?_⟩
      refine Rd.lcMap (fun j => .int (mi t (j : Nat) x)) (Rd.src_rng 0 _ H26) (by rw [Rd.rgL_len]; omega) (by intro _; rfl) (fun j y H27 Q2 hy e27 q2 => ?_) (fun rp H27 hrp e27 h9 => ?_)
      · have hj : j < t.length := by
          have := (List.getElem?_eq_some_iff.mp hy).1
          rw [Rd.rgL_len] at this
          omega
        rw [Rd.rgL_get (by omega), Int.zero_add] at hy
        cases hy
        obtain ⟨xs, ax, rs, k1, k2, k3, k4⟩ := (X13.same (f13.trans (e26.trans e27))).cellI (K := K) S (x := (j : Nat)) ⟨by omega, by omega⟩ xT
        walk_at "st"
        refine Rd.ixL k1 k2 ?_
        walk_at "st"
        refine Rd.ixL k3 k4 ?_
        exact q2 _ (Same.refl _)
      · rw [colV x] at h9
        exact q1 rp _ _ hrp e27 h9 rfl
    have XQ : TabN H25 H26 p3 (cs.map (colOf t)) := TabN.made hp3 h6 (by rw [lra, List.length_map, List.length_map]) hra nd
    clear h6 lra hra nd
    obtain ⟨qa, q1, q2, q3, q4⟩ := XQ.ob
    have f13 := f13.trans e26
    have GA := GA.same e26
    have w0 : ∀ ls : List Int, (ls.map fun y => widen 0 0 (colOf t y)) = ls.map (colOf t) := fun ls => List.map_congr_left fun y _ => widen0 _
    have pc := SG.cols G 0 0
    rw [w0, w0, show 0 + t.length + 0 = t.length by omega] at pc
    have tc0 : tabOf cmp2 (ms.map (colOf t)) = tabOf (mi t) ms := by rw [← w0]; exact SG.tabCols G 0 0
    walk_at "st"
    refine ⟨rfl, rfl, p3, qa, cs.map (colOf t), ms.map (colOf t), t.length, rfl, q1, q2, by omega, fun p hp => ?_, pc, by rw [List.length_map]; omega, by rw [tc0]; exact SG.grp G, fun r9 g9 l9 H27 hr9 e27 h27 GA9 X9 => ?_⟩
    · obtain ⟨y, hy, rfl⟩ := List.mem_map.mp hp
      exact G.col_perm (csm y hy)
    rw [tc0] at GA9
    have f13 := f13.trans e27
    have GA := GA.same e27
    walk_at "st"
    refine Rd.itl' (SqL.of (f13 _ _ hM13)) ?_
    refine Rd.lcNew (fun i o => o = .lst (((ms.map (colOf t)).getD i []).map V.int)) (Rd.src_list (SqL.of (f13 _ _ hM13))) (by rw [List.length_map]; omega) (by intro _; rfl) (fun i y H28 Q1 hy e28 q1 => ?_) (fun p4 ra H28 hp4 e28 h6 lra hra nd => ?_)
    · obtain ⟨x, hx, rfl⟩ := intAt hy
      have xT := msm x (List.mem_of_getElem? hx)
      rw [colList ms msm i x hx] at q1
      walk_at "st"
      refine ⟨by omega, by omega, ?_⟩
      refine Rd.lcMap (fun j => .int (mi t (j : Nat) x)) (Rd.src_rng 0 _ H28) (by rw [Rd.rgL_len]; omega) (by intro _; rfl) (fun j y H29 Q2 hy e29 q2 => ?_) (fun rp H29 hrp e29 h9 => ?_)
      · have hj : j < t.length := by
          have := (List.getElem?_eq_some_iff.mp hy).1
          rw [Rd.rgL_len] at this
          omega
        rw [Rd.rgL_get (by omega), Int.zero_add] at hy
        cases hy
        obtain ⟨xs, ax, rs, k1, k2, k3, k4⟩ := (X13.same (f13.trans (e28.trans e29))).cellI (K := K) S (x := (j : Nat)) ⟨by omega, by omega⟩ xT
        walk_at "st"
        refine Rd.ixL k1 k2 ?_
        walk_at "st"
        refine Rd.ixL k3 k4 ?_
        exact q2 _ (Same.refl _)
      · rw [colV x] at h9
        exact q1 rp _ _ hrp e29 h9 rfl
    have XW : TabN H27 H28 p4 (ms.map (colOf t)) := TabN.made hp4 h6 (by rw [lra, List.length_map, List.length_map]) hra nd
    clear h6 lra hra nd
    have f13 := f13.trans e28
    have GA := GA.same e28
    have GA9 := GA9.same e28
    refine ⟨r9, g9, l9, tb, p4, tabOf (mi t) ms, rfl, e28 _ _ h27, GA9, XP.same f13, ((TabN.tab X9).same e28).dd XW.tab (by rw [List.length_map]; omega) (fun z hz => ?_), fun H29 e29 => ?_⟩
    · obtain ⟨y, _, rfl⟩ := List.mem_map.mp hz
      rw [col_len]; omega
    have f13 := f13.trans e29
    have GA := GA.same e29
    have GA9 := GA9.same e29
    walk_at "st"
    refine (if_neg Bool.false_ne_true).mpr ?_
    walk_at "st"
    refine Rd.ixT (SqT.of (e29 _ _ (e28 _ _ h27))) at0 ?_
    walk_at "st"
    refine ⟨ml, _, rfl, .inl (SqL.of (f13 _ _ hM13)), fun l8 hl8 => ?_⟩
    have e30 : Same H29 (upd H29 l8 (.lst (ms.map V.int))) := Rd.same_mk hl8
    have hL8 : (upd H29 l8 (.lst (ms.map V.int))) l8 = some (.lst (ms.map V.int)) := upd_same
    generalize upd H29 l8 (.lst (ms.map V.int)) = H30 at e30 hL8
    refine ⟨g, l8, t, cs, ms, rfl, GA.same e30, hL8, SG, fun r7 g7 l7 H31 hr7 e31 h31 GA7 _ _ => ?_⟩
    have GA9 := (GA9.same e30).same e31
    obtain ⟨dx9, R9, I9, rs9, hg9, _, _, _⟩ := GA9.ob
    obtain ⟨dx7, R7, I7, rs7, hg7, _, _, _⟩ := GA7.ob
    walk_at "st"
    refine Rd.ixT (SqT.of h31) at0 ?_
    refine ⟨g9, dx9, _, g7, dx7, _, rfl, rfl, hg9, hg7, g9, g7, _, _, rfl, GA9, GA7, ?_⟩
    rw [decide_eq_true rfl]
    walk_at "st"
    exact ⟨_, _, rfl, .bl 2 true, fun H32 _ => kQ H32⟩
end
end K10

set_option Elab.async false
set_option linter.all false
set_option maxRecDepth 100000
set_option maxHeartbeats 0
namespace K10
open PySem PySem.Spec PyProof.Rows L2 Rd
theorem fnDown {P : Program} {w : World} {K : PySem.W.Frag} {mg : Str → Option Value} {base : Heap} {k : Nat} {f : Addr} {fd : FuncData} {ps : List Str} {sp : Sp} (F : FnOk P w K mg base (L2.CX P w) k f fd ps sp) (h : ∀ vs H Q E, sp vs H Q E → sp vs H Q E0) : FnOk P w K mg base CX0 k f fd ps sp :=
  ⟨F.len, fun A outer s H args us vs Q E hr he hb hv hs => codeAny_mono (F.run A outer s H args us vs Q E0 hr he hb hv (h _ _ _ _ hs)) fun r s' q => by
    cases r with
    | ok fl => cases fl <;> exact q
    | error e =>
      obtain ⟨_, _, _, _, _, _, _, _, _, _, _, _, z⟩ := q
      exact z.elim⟩
def d__has_shape : He.DefD := ⟨("_has_shape", none), "_has_shape", "_has_shape", defArgs s__has_shape, defBody s__has_shape, defScope s__has_shape, [], []⟩
def d__has_identity : He.DefD := ⟨("_has_identity", none), "_has_identity", "_has_identity", defArgs s__has_identity, defBody s__has_identity, defScope s__has_identity, [], []⟩
def d__has_inverses : He.DefD := ⟨("_has_inverses", none), "_has_inverses", "_has_inverses", defArgs s__has_inverses, defBody s__has_inverses, defScope s__has_inverses, [], []⟩
def d__is_associative : He.DefD := ⟨("_is_associative", none), "_is_associative", "_is_associative", defArgs s__is_associative, defBody s__is_associative, defScope s__is_associative, [], []⟩
def d_Group___init__ : He.DefD := ⟨("Group", some "__init__"), "__init__", "Group.__init__", defArgs s_Group___init__, defBody s_Group___init__, defScope s_Group___init__, [], []⟩
def d_Group_require : He.DefD := ⟨("Group", some "require"), "require", "Group.require", defArgs s_Group_require, defBody s_Group_require, defScope s_Group_require, [], []⟩
def d_Group_generated : He.DefD := ⟨("Group", some "generated"), "generated", "Group.generated", defArgs s_Group_generated, defBody s_Group_generated, defScope s_Group_generated, [], []⟩
def d_Group___eq__ : He.DefD := ⟨("Group", some "__eq__"), "__eq__", "Group.__eq__", defArgs s_Group___eq__, defBody s_Group___eq__, defScope s_Group___eq__, [], []⟩
def d_is_subgroup : He.DefD := ⟨("is_subgroup", none), "is_subgroup", "is_subgroup", defArgs s_is_subgroup, defBody s_is_subgroup, defScope s_is_subgroup, [], []⟩
def d__followed : He.DefD := ⟨("_followed", none), "_followed", "_followed", defArgs s__followed, defBody s__followed, defScope s__followed, [], []⟩
def d__all_products : He.DefD := ⟨("_all_products", none), "_all_products", "_all_products", defArgs s__all_products, defBody s__all_products, defScope s__all_products, [], []⟩
def d_from_permutations : He.DefD := ⟨("from_permutations", none), "from_permutations", "from_permutations", defArgs s_from_permutations, defBody s_from_permutations, defScope s_from_permutations, [], []⟩
def d_subgroup_as_group : He.DefD := ⟨("subgroup_as_group", none), "subgroup_as_group", "subgroup_as_group", defArgs s_subgroup_as_group, defBody s_subgroup_as_group, defScope s_subgroup_as_group, [], []⟩
def d__law_bag : He.DefD := ⟨("_law_bag", none), "_law_bag", "_law_bag", defArgs s__law_bag, defBody s__law_bag, defScope s__law_bag, [], []⟩
def d__law_take : He.DefD := ⟨("_law_take", none), "_law_take", "_law_take", defArgs s__law_take, defBody s__law_take, defScope s__law_take, [], []⟩
def d__law_power : He.DefD := ⟨("_law_power", none), "_law_power", "_law_power", defArgs s__law_power, defBody s__law_power, defScope s__law_power, [], []⟩
def d__law_metacyclic : He.DefD := ⟨("_law_metacyclic", none), "_law_metacyclic", "_law_metacyclic", defArgs s__law_metacyclic, defBody s__law_metacyclic, defScope s__law_metacyclic, [], []⟩
def d__law_permutations : He.DefD := ⟨("_law_permutations", none), "_law_permutations", "_law_permutations", defArgs s__law_permutations, defBody s__law_permutations, defScope s__law_permutations, [], []⟩
def d__law_renamed : He.DefD := ⟨("_law_renamed", none), "_law_renamed", "_law_renamed", defArgs s__law_renamed, defBody s__law_renamed, defScope s__law_renamed, [], []⟩
def d__law_table : He.DefD := ⟨("_law_table", none), "_law_table", "_law_table", defArgs s__law_table, defBody s__law_table, defScope s__law_table, [], []⟩
def d__law_closed : He.DefD := ⟨("_law_closed", none), "_law_closed", "_law_closed", defArgs s__law_closed, defBody s__law_closed, defScope s__law_closed, [], []⟩
def d__law_is_integer : He.DefD := ⟨("_law_is_integer", none), "_law_is_integer", "_law_is_integer", defArgs s__law_is_integer, defBody s__law_is_integer, defScope s__law_is_integer, [], []⟩
def d__law_same : He.DefD := ⟨("_law_same", none), "_law_same", "_law_same", defArgs s__law_same, defBody s__law_same, defScope s__law_same, [], []⟩
def d__law_widened : He.DefD := ⟨("_law_widened", none), "_law_widened", "_law_widened", defArgs s__law_widened, defBody s__law_widened, defScope s__law_widened, [], []⟩
def d__law_pair_is : He.DefD := ⟨("_law_pair_is", none), "_law_pair_is", "_law_pair_is", defArgs s__law_pair_is, defBody s__law_pair_is, defScope s__law_pair_is, [], []⟩
def d__law_permuted : He.DefD := ⟨("_law_permuted", none), "_law_permuted", "_law_permuted", defArgs s__law_permuted, defBody s__law_permuted, defScope s__law_permuted, [], []⟩
def d__law_subgroup : He.DefD := ⟨("_law_subgroup", none), "_law_subgroup", "_law_subgroup", defArgs s__law_subgroup, defBody s__law_subgroup, defScope s__law_subgroup, [], []⟩
def d_law : He.DefD := ⟨("law", none), "law", "law", defArgs s_law, defBody s_law, defScope s_law, [], []⟩
def fnL : List He.DefD := [d__has_shape, d__has_identity, d__has_inverses, d__is_associative, d_Group___init__, d_Group_require, d_Group_generated, d_Group___eq__, d_is_subgroup, d__followed, d__all_products, d_from_permutations, d_subgroup_as_group, d__law_bag, d__law_take, d__law_power, d__law_metacyclic, d__law_permutations, d__law_renamed, d__law_table, d__law_closed, d__law_is_integer, d__law_same, d__law_widened, d__law_pair_is, d__law_permuted, d__law_subgroup, d_law]
def faL : List He.Fa := [.glo "_has_shape", .glo "_has_identity", .glo "_has_inverses", .glo "_is_associative", .meth "Group" "require", .meth "Group" "generated", .meth "Group" "__eq__", .glo "is_subgroup", .glo "_followed", .glo "_all_products", .glo "from_permutations", .glo "subgroup_as_group", .glo "_law_bag", .glo "_law_take", .glo "_law_power", .glo "_law_metacyclic", .glo "_law_permutations", .glo "_law_renamed", .glo "_law_table", .glo "_law_closed", .glo "_law_is_integer", .glo "_law_same", .glo "_law_widened", .glo "_law_pair_is", .glo "_law_permuted", .glo "_law_subgroup", .glo "law", .glo "LimitExceeded", .glo "InvalidGroup", .glo "InvalidElement", .glo "NotSubgroup", .glo "Group", .exc "LimitExceeded", .exc "InvalidGroup", .exc "InvalidElement", .exc "NotSubgroup", .cls "Group", .mkr "Group", .noat "Group" "order", .noat "Group" "rows", .noat "Group" "inverses", .free "len", .free "tuple", .free "list", .free "range", .free "all", .free "enumerate", .free "sorted", .free "int", .free "bool", .free "abs", .free "isinstance", .free "str", .free "dict", .int "LIMIT" 32]
def exL (K : PySem.W.Frag) : List Bool := [He.eqO (PySem.W.specialIn K (.builtin "object.__class__") "__get__") (some (some (.builtin "getset_descriptor.__get__"))),
  decide (PySem.W.takesIn K (.builtin "object.__class__") = some true),
  decide (PySem.W.kitOne K (.ref (He.ga K "Group")) (.ref (He.ga K "Group")) = some true),
  He.eqO (PySem.W.findIn K (.ref (He.ga K "Group")) "__class__") (some (some (.builtin "object.__class__"))),
  decide (PySem.W.mroIn K (He.ga K "Group") (.type "object") = some true)]
theorem exAt {K : PySem.W.Frag} (c : (exL K).all id = true) (i : Nat) {b : Bool} (h : (exL K)[i]? = some b) : b = true := List.all_eq_true.mp c b (List.mem_of_getElem? h)
abbrev RR : PySem.W.OpenRow := PySem.W.OpenLaw.row PySem.Challenge.rw_stepsvanish_k10_columns_as_permutations
def obE (g : Addr → Option Obj) : He.AlD × Bool := (He.obsD faL fnL (He.frG g (He.asD g 4)), (exL (He.frG g (He.asD g 4))).all id)
def hkL : PySem.W.Hook where
  α := He.AlD × Bool
  obs := fun s => obE s.heap.get?
  val := fun _ => (He.valD fnL, true)
  says := fun _ h => ∃ K : PySem.W.Frag, K.In h ∧ He.SaysD faL fnL K ∧ (exL K).all id = true
  of := fun _ _ e => ⟨_, He.frG_in, congrArg Prod.fst e, congrArg Prod.snd e⟩
  keeps := fun _ _ _ ⟨K, hK, c⟩ k => ⟨K, PySem.W.Frag.In.keeps hK k, c⟩
def obL (s : PySem.W.SharedT) : He.AlD × Bool := obE (HandSHeadRun.getT s)
theorem obL_eq (s : PySem.W.SharedT) : obL s = hkL.obs s.abs := by
  have e : HandSHeadRun.getT s = s.abs.heap.get? := funext (HandSHeadRun.getT_eq s)
  show obE _ = obE _
  rw [e]
def looseL : List PySem.Str := [("_wall" : PySem.Str), ("__name__" : PySem.Str), ("StepError" : PySem.Str), ("InvalidGroup" : PySem.Str), ("InvalidElement" : PySem.Str), ("LimitExceeded" : PySem.Str), ("NotSubgroup" : PySem.Str), ("__name__" : PySem.Str), ("LIMIT" : PySem.Str), ("Group" : PySem.Str), ("_has_shape" : PySem.Str), ("_has_identity" : PySem.Str), ("_has_inverses" : PySem.Str), ("_is_associative" : PySem.Str), ("__name__" : PySem.Str), ("is_subgroup" : PySem.Str), ("__name__" : PySem.Str), ("from_permutations" : PySem.Str), ("_all_products" : PySem.Str), ("_followed" : PySem.Str), ("subgroup_as_group" : PySem.Str), ("__name__" : PySem.Str), ("_law_bag" : PySem.Str), ("_law_take" : PySem.Str), ("_law_power" : PySem.Str), ("_law_metacyclic" : PySem.Str), ("_law_permutations" : PySem.Str), ("_law_renamed" : PySem.Str), ("_law_table" : PySem.Str), ("_law_closed" : PySem.Str), ("_law_is_integer" : PySem.Str), ("_law_same" : PySem.Str), ("_law_widened" : PySem.Str), ("_law_pair_is" : PySem.Str), ("_law_permuted" : PySem.Str), ("_law_subgroup" : PySem.Str)]
theorem factsL {P : Program} {w : World} {K : PySem.W.Frag} {h : Heap} {mg : Str → Option Value} {f : Addr} (X : K.In h) (G : h.Ns mainGlobals mg) (hfa : mg ("law" : Str) = some (.ref f)) (c : He.SaysD faL fnL K) (x : (exL K).all id = true) :
    ∃ fd : FuncData, (∀ (s : Shared) (v : Value), BindsTo s fd ⟨[v], []⟩ [("script", v)]) ∧ ∀ base : Heap, K.In base → base.Ns mainGlobals mg → FnOk P w K mg base CX0 7 f fd ["script"] (sp_law K) := by
  obtain ⟨fd__has_shape, F__has_shape⟩ := c.def_ 0 (d := d__has_shape) rfl
  have g__has_shape := He.glo_ok X G (c.fact 0 (f := .glo "_has_shape") rfl)
  have b__has_shape : Binds K fd__has_shape ["rows"] [] := F__has_shape.bindsN fun _ _ _ _ _ _ us hl => match us, hl with | [_], _ => rfl
  obtain ⟨fd__has_identity, F__has_identity⟩ := c.def_ 1 (d := d__has_identity) rfl
  have g__has_identity := He.glo_ok X G (c.fact 1 (f := .glo "_has_identity") rfl)
  have b__has_identity : Binds K fd__has_identity ["rows"] [] := F__has_identity.bindsN fun _ _ _ _ _ _ us hl => match us, hl with | [_], _ => rfl
  obtain ⟨fd__has_inverses, F__has_inverses⟩ := c.def_ 2 (d := d__has_inverses) rfl
  have g__has_inverses := He.glo_ok X G (c.fact 2 (f := .glo "_has_inverses") rfl)
  have b__has_inverses : Binds K fd__has_inverses ["rows"] [] := F__has_inverses.bindsN fun _ _ _ _ _ _ us hl => match us, hl with | [_], _ => rfl
  obtain ⟨fd__is_associative, F__is_associative⟩ := c.def_ 3 (d := d__is_associative) rfl
  have g__is_associative := He.glo_ok X G (c.fact 3 (f := .glo "_is_associative") rfl)
  have b__is_associative : Binds K fd__is_associative ["rows"] [] := F__is_associative.bindsN fun _ _ _ _ _ _ us hl => match us, hl with | [_], _ => rfl
  obtain ⟨fd_Group___init__, F_Group___init__⟩ := c.def_ 4 (d := d_Group___init__) rfl
  have b_Group___init__ : Binds K fd_Group___init__ ["self", "table"] [] := F_Group___init__.bindsN fun _ _ _ _ _ _ us hl => match us, hl with | [_, _], _ => rfl
  obtain ⟨fd_Group_require, F_Group_require⟩ := c.def_ 5 (d := d_Group_require) rfl
  have b_Group_require : Binds K fd_Group_require ["self", "members"] [] := F_Group_require.bindsN fun _ _ _ _ _ _ us hl => match us, hl with | [_, _], _ => rfl
  obtain ⟨fd_Group_generated, F_Group_generated⟩ := c.def_ 6 (d := d_Group_generated) rfl
  have b_Group_generated : Binds K fd_Group_generated ["self", "members"] [] := F_Group_generated.bindsN fun _ _ _ _ _ _ us hl => match us, hl with | [_, _], _ => rfl
  obtain ⟨fd_Group___eq__, F_Group___eq__⟩ := c.def_ 7 (d := d_Group___eq__) rfl
  have b_Group___eq__ : Binds K fd_Group___eq__ ["self", "other"] [] := F_Group___eq__.bindsN fun _ _ _ _ _ _ us hl => match us, hl with | [_, _], _ => rfl
  obtain ⟨fd_is_subgroup, F_is_subgroup⟩ := c.def_ 8 (d := d_is_subgroup) rfl
  have g_is_subgroup := He.glo_ok X G (c.fact 7 (f := .glo "is_subgroup") rfl)
  have b_is_subgroup : Binds K fd_is_subgroup ["group", "members"] [] := F_is_subgroup.bindsN fun _ _ _ _ _ _ us hl => match us, hl with | [_, _], _ => rfl
  obtain ⟨fd__followed, F__followed⟩ := c.def_ 9 (d := d__followed) rfl
  have g__followed := He.glo_ok X G (c.fact 8 (f := .glo "_followed") rfl)
  have b__followed : Binds K fd__followed ["first", "second"] [] := F__followed.bindsN fun _ _ _ _ _ _ us hl => match us, hl with | [_, _], _ => rfl
  obtain ⟨fd__all_products, F__all_products⟩ := c.def_ 10 (d := d__all_products) rfl
  have g__all_products := He.glo_ok X G (c.fact 9 (f := .glo "_all_products") rfl)
  have b__all_products : Binds K fd__all_products ["permutations", "plain"] [] := F__all_products.bindsN fun _ _ _ _ _ _ us hl => match us, hl with | [_, _], _ => rfl
  obtain ⟨fd_from_permutations, F_from_permutations⟩ := c.def_ 11 (d := d_from_permutations) rfl
  have g_from_permutations := He.glo_ok X G (c.fact 10 (f := .glo "from_permutations") rfl)
  obtain ⟨fd_subgroup_as_group, F_subgroup_as_group⟩ := c.def_ 12 (d := d_subgroup_as_group) rfl
  have g_subgroup_as_group := He.glo_ok X G (c.fact 11 (f := .glo "subgroup_as_group") rfl)
  have b_subgroup_as_group : Binds K fd_subgroup_as_group ["group", "members"] [] := F_subgroup_as_group.bindsN fun _ _ _ _ _ _ us hl => match us, hl with | [_, _], _ => rfl
  obtain ⟨fd__law_bag, F__law_bag⟩ := c.def_ 13 (d := d__law_bag) rfl
  have g__law_bag := He.glo_ok X G (c.fact 12 (f := .glo "_law_bag") rfl)
  have b__law_bag : Binds K fd__law_bag ["script", "k"] [] := F__law_bag.bindsN fun _ _ _ _ _ _ us hl => match us, hl with | [_, _], _ => rfl
  obtain ⟨fd__law_take, F__law_take⟩ := c.def_ 14 (d := d__law_take) rfl
  have g__law_take := He.glo_ok X G (c.fact 13 (f := .glo "_law_take") rfl)
  have b__law_take : Binds K fd__law_take ["bag", "size"] [] := F__law_take.bindsN fun _ _ _ _ _ _ us hl => match us, hl with | [_, _], _ => rfl
  obtain ⟨fd__law_power, F__law_power⟩ := c.def_ 15 (d := d__law_power) rfl
  have g__law_power := He.glo_ok X G (c.fact 14 (f := .glo "_law_power") rfl)
  have b__law_power : Binds K fd__law_power ["base", "times", "modulus"] [] := F__law_power.bindsN fun _ _ _ _ _ _ us hl => match us, hl with | [_, _, _], _ => rfl
  obtain ⟨fd__law_metacyclic, F__law_metacyclic⟩ := c.def_ 16 (d := d__law_metacyclic) rfl
  have g__law_metacyclic := He.glo_ok X G (c.fact 15 (f := .glo "_law_metacyclic") rfl)
  have b__law_metacyclic : Binds K fd__law_metacyclic ["bag", "limit"] [] := F__law_metacyclic.bindsN fun _ _ _ _ _ _ us hl => match us, hl with | [_, _], _ => rfl
  obtain ⟨fd__law_permutations, F__law_permutations⟩ := c.def_ 17 (d := d__law_permutations) rfl
  have g__law_permutations := He.glo_ok X G (c.fact 16 (f := .glo "_law_permutations") rfl)
  have b__law_permutations : Binds K fd__law_permutations ["bag"] [] := F__law_permutations.bindsN fun _ _ _ _ _ _ us hl => match us, hl with | [_], _ => rfl
  obtain ⟨fd__law_renamed, F__law_renamed⟩ := c.def_ 18 (d := d__law_renamed) rfl
  have g__law_renamed := He.glo_ok X G (c.fact 17 (f := .glo "_law_renamed") rfl)
  have b__law_renamed : Binds K fd__law_renamed ["bag", "table"] [] := F__law_renamed.bindsN fun _ _ _ _ _ _ us hl => match us, hl with | [_, _], _ => rfl
  obtain ⟨fd__law_table, F__law_table⟩ := c.def_ 19 (d := d__law_table) rfl
  have g__law_table := He.glo_ok X G (c.fact 18 (f := .glo "_law_table") rfl)
  have b__law_table : Binds K fd__law_table ["bag", "limit"] [] := F__law_table.bindsN fun _ _ _ _ _ _ us hl => match us, hl with | [_, _], _ => rfl
  obtain ⟨fd__law_closed, F__law_closed⟩ := c.def_ 20 (d := d__law_closed) rfl
  have g__law_closed := He.glo_ok X G (c.fact 19 (f := .glo "_law_closed") rfl)
  have b__law_closed : Binds K fd__law_closed ["table", "members"] [] := F__law_closed.bindsN fun _ _ _ _ _ _ us hl => match us, hl with | [_, _], _ => rfl
  obtain ⟨fd__law_is_integer, F__law_is_integer⟩ := c.def_ 21 (d := d__law_is_integer) rfl
  have g__law_is_integer := He.glo_ok X G (c.fact 20 (f := .glo "_law_is_integer") rfl)
  have b__law_is_integer : Binds K fd__law_is_integer ["told"] [] := F__law_is_integer.bindsN fun _ _ _ _ _ _ us hl => match us, hl with | [_], _ => rfl
  obtain ⟨fd__law_same, F__law_same⟩ := c.def_ 22 (d := d__law_same) rfl
  have g__law_same := He.glo_ok X G (c.fact 21 (f := .glo "_law_same") rfl)
  have b__law_same : Binds K fd__law_same ["told", "due"] [] := F__law_same.bindsN fun _ _ _ _ _ _ us hl => match us, hl with | [_, _], _ => rfl
  obtain ⟨fd__law_widened, F__law_widened⟩ := c.def_ 23 (d := d__law_widened) rfl
  have g__law_widened := He.glo_ok X G (c.fact 22 (f := .glo "_law_widened") rfl)
  have b__law_widened : Binds K fd__law_widened ["row", "before", "behind"] [] := F__law_widened.bindsN fun _ _ _ _ _ _ us hl => match us, hl with | [_, _, _], _ => rfl
  obtain ⟨fd__law_pair_is, F__law_pair_is⟩ := c.def_ 24 (d := d__law_pair_is) rfl
  have g__law_pair_is := He.glo_ok X G (c.fact 23 (f := .glo "_law_pair_is") rfl)
  have b__law_pair_is : Binds K fd__law_pair_is ["told", "table", "due"] [] := F__law_pair_is.bindsN fun _ _ _ _ _ _ us hl => match us, hl with | [_, _, _], _ => rfl
  obtain ⟨fd__law_permuted, F__law_permuted⟩ := c.def_ 25 (d := d__law_permuted) rfl
  have g__law_permuted := He.glo_ok X G (c.fact 24 (f := .glo "_law_permuted") rfl)
  have b__law_permuted : Binds K fd__law_permuted ["permutations", "many", "table", "due"] [] := F__law_permuted.bindsN fun _ _ _ _ _ _ us hl => match us, hl with | [_, _, _, _], _ => rfl
  obtain ⟨fd__law_subgroup, F__law_subgroup⟩ := c.def_ 26 (d := d__law_subgroup) rfl
  have g__law_subgroup := He.glo_ok X G (c.fact 25 (f := .glo "_law_subgroup") rfl)
  have b__law_subgroup : Binds K fd__law_subgroup ["group", "members", "table"] [] := F__law_subgroup.bindsN fun _ _ _ _ _ _ us hl => match us, hl with | [_, _, _], _ => rfl
  obtain ⟨fd_law, F_law⟩ := c.def_ 27 (d := d_law) rfl
  have g_law := He.glo_ok X G (c.fact 26 (f := .glo "law") rfl)
  have g_LimitExceeded := He.glo_ok X G (c.fact 27 (f := .glo "LimitExceeded") rfl)
  have g_InvalidGroup := He.glo_ok X G (c.fact 28 (f := .glo "InvalidGroup") rfl)
  have g_InvalidElement := He.glo_ok X G (c.fact 29 (f := .glo "InvalidElement") rfl)
  have g_NotSubgroup := He.glo_ok X G (c.fact 30 (f := .glo "NotSubgroup") rfl)
  have g_Group := He.glo_ok X G (c.fact 31 (f := .glo "Group") rfl)
  have x_LimitExceeded : ExF K mg "LimitExceeded" (He.ga K "LimitExceeded") := by
    obtain ⟨h1, h2, h3, h4⟩ := He.exc_ok (c.fact 32 (f := .exc "LimitExceeded") rfl)
    exact ⟨g_LimitExceeded, h1, h2, h3, h4⟩
  have x_InvalidGroup : ExF K mg "InvalidGroup" (He.ga K "InvalidGroup") := by
    obtain ⟨h1, h2, h3, h4⟩ := He.exc_ok (c.fact 33 (f := .exc "InvalidGroup") rfl)
    exact ⟨g_InvalidGroup, h1, h2, h3, h4⟩
  have x_InvalidElement : ExF K mg "InvalidElement" (He.ga K "InvalidElement") := by
    obtain ⟨h1, h2, h3, h4⟩ := He.exc_ok (c.fact 34 (f := .exc "InvalidElement") rfl)
    exact ⟨g_InvalidElement, h1, h2, h3, h4⟩
  have x_NotSubgroup : ExF K mg "NotSubgroup" (He.ga K "NotSubgroup") := by
    obtain ⟨h1, h2, h3, h4⟩ := He.exc_ok (c.fact 35 (f := .exc "NotSubgroup") rfl)
    exact ⟨g_NotSubgroup, h1, h2, h3, h4⟩
  have T : Txt K mg := ⟨He.free_ok X G (c.fact 41 (f := .free "len") rfl), He.free_ok X G (c.fact 42 (f := .free "tuple") rfl), He.free_ok X G (c.fact 43 (f := .free "list") rfl), He.free_ok X G (c.fact 44 (f := .free "range") rfl), He.free_ok X G (c.fact 45 (f := .free "all") rfl), He.free_ok X G (c.fact 46 (f := .free "enumerate") rfl), He.free_ok X G (c.fact 47 (f := .free "sorted") rfl), He.free_ok X G (c.fact 48 (f := .free "int") rfl), He.free_ok X G (c.fact 49 (f := .free "bool") rfl), He.free_ok X G (c.fact 50 (f := .free "abs") rfl), He.free_ok X G (c.fact 51 (f := .free "isinstance") rfl), He.free_ok X G (c.fact 52 (f := .free "str") rfl), He.free_ok X G (c.fact 53 (f := .free "dict") rfl), He.int_ok X G (c.fact 54 (f := .int "LIMIT" 32) rfl), x_LimitExceeded, x_InvalidGroup, x_InvalidElement, x_NotSubgroup, He.cls_ok (c.fact 36 (f := .cls "Group") rfl), He.noat_ok (c.fact 38 (f := .noat "Group" "order") rfl), He.noat_ok (c.fact 39 (f := .noat "Group" "rows") rfl), He.noat_ok (c.fact 40 (f := .noat "Group" "inverses") rfl)⟩
  have T4 : Txt4 K mg := ⟨g_Group, He.eqO_ok (exAt x 3 rfl), He.eqO_ok (exAt x 0 rfl), of_decide_eq_true (exAt x 1 rfl), of_decide_eq_true (exAt x 4 rfl), of_decide_eq_true (exAt x 2 rfl)⟩
  have e := hfa.symm.trans g_law
  cases e
  have b := FunD.bindsA (ps := ["script"]) F_law fun _ _ _ _ _ _ us hl => match us, hl with | [_], _ => rfl
  refine ⟨fd_law, fun s v => b s [v] rfl, fun base _ _ => ?_⟩
  have D__has_shape : DOk P w K mg base CX0 "_has_shape" _ _ _ := ⟨⟨_, _, ok_shape F__has_shape T, g__has_shape, F__has_shape.kp, b__has_shape⟩⟩
  have D__has_identity : DOk P w K mg base CX0 "_has_identity" _ _ _ := ⟨⟨_, _, ok_idn F__has_identity T, g__has_identity, F__has_identity.kp, b__has_identity⟩⟩
  have D__has_inverses : DOk P w K mg base CX0 "_has_inverses" _ _ _ := ⟨⟨_, _, ok_invs F__has_inverses T, g__has_inverses, F__has_inverses.kp, b__has_inverses⟩⟩
  have D__is_associative : DOk P w K mg base CX0 "_is_associative" _ _ _ := ⟨⟨_, _, ok_asc F__is_associative T, g__is_associative, F__is_associative.kp, b__is_associative⟩⟩
  have D_Group : KOk P w K mg base (L2.CX P w) "Group" (He.ga K "Group") _ _ _ := ⟨⟨_, _, He.mkr_ok (c.fact 37 (f := .mkr "Group") rfl), ok_init F_Group___init__ T D__has_shape D__has_identity D__has_inverses D__is_associative, g_Group, b_Group___init__⟩⟩
  have M_require : MOk P w K mg base (L2.CX P w) (He.ga K "Group") "require" _ _ _ := ⟨He.cls_ok (c.fact 36 (f := .cls "Group") rfl), ⟨_, _, He.meth_ok (c.fact 4 (f := .meth "Group" "require") rfl), ok_req F_Group_require T, b_Group_require⟩⟩
  have M_generated : MOk P w K mg base (L2.CX P w) (He.ga K "Group") "generated" _ _ _ := ⟨He.cls_ok (c.fact 36 (f := .cls "Group") rfl), ⟨_, _, He.meth_ok (c.fact 5 (f := .meth "Group" "generated") rfl), ok_gen F_Group_generated T M_require, b_Group_generated⟩⟩
  have M_eq : EqOk P w K mg base CX0 (gC K) 1 ["self", "other"] (sp_eq K) := by
    have m := He.meth_ok (c.fact 6 (f := .meth "Group" "__eq__") rfl)
    exact ⟨⟨_, _, m.at_, m.fn, ok_eq F_Group___eq__ T T4, b_Group___eq__⟩⟩
  have D_is_subgroup : DOk P w K mg base CX0 "is_subgroup" _ _ _ := ⟨⟨_, _, ok_issub F_is_subgroup T M_generated, g_is_subgroup, F_is_subgroup.kp, b_is_subgroup⟩⟩
  have D__followed : DOk P w K mg base CX0 "_followed" _ _ _ := ⟨⟨_, _, ok_fol F__followed T, g__followed, F__followed.kp, b__followed⟩⟩
  have D__all_products : DOk P w K mg base CX0 "_all_products" _ _ _ := ⟨⟨_, _, ok_allp F__all_products T D__followed, g__all_products, F__all_products.kp, b__all_products⟩⟩
  have D_from_permutations : DOkN P w K mg base CX0 "from_permutations" _ _ 1 ["points"] _ := ⟨⟨_, _, ok_fp F_from_permutations T D__followed D__all_products D_Group, g_from_permutations, F_from_permutations.kp, F_from_permutations.kbn fun _ _ _ _ _ _ us ws h1 h2 => match us, ws, h1, h2 with | [_], [_], _, _ => rfl⟩⟩
  have D_subgroup_as_group : DOk P w K mg base CX0 "subgroup_as_group" _ _ _ := ⟨⟨_, _, ok_sg F_subgroup_as_group T D_is_subgroup D_Group, g_subgroup_as_group, F_subgroup_as_group.kp, b_subgroup_as_group⟩⟩
  have D__law_bag : DOk P w K mg base CX0 "_law_bag" _ _ _ := ⟨⟨_, _, ok_bag F__law_bag T, g__law_bag, F__law_bag.kp, b__law_bag⟩⟩
  have D__law_take : DOk P w K mg base CX0 "_law_take" _ _ _ := ⟨⟨_, _, ok_take F__law_take T, g__law_take, F__law_take.kp, b__law_take⟩⟩
  have D__law_power : DOk P w K mg base CX0 "_law_power" _ _ _ := ⟨⟨_, _, ok_power F__law_power T, g__law_power, F__law_power.kp, b__law_power⟩⟩
  have D__law_metacyclic : DOk P w K mg base CX0 "_law_metacyclic" _ _ _ := ⟨⟨_, _, ok_meta F__law_metacyclic T D__law_take D__law_power, g__law_metacyclic, F__law_metacyclic.kp, b__law_metacyclic⟩⟩
  have D__law_permutations : DOk P w K mg base CX0 "_law_permutations" _ _ _ := ⟨⟨_, _, ok_perm F__law_permutations T D__law_take, g__law_permutations, F__law_permutations.kp, b__law_permutations⟩⟩
  have D__law_renamed : DOk P w K mg base CX0 "_law_renamed" _ _ _ := ⟨⟨_, _, ok_ren F__law_renamed T D__law_take, g__law_renamed, F__law_renamed.kp, b__law_renamed⟩⟩
  have D__law_table : DOk P w K mg base CX0 "_law_table" _ _ _ := ⟨⟨_, _, ok_table F__law_table T D__law_take D__law_metacyclic D__law_permutations D__law_renamed, g__law_table, F__law_table.kp, b__law_table⟩⟩
  have D__law_closed : DOk P w K mg base CX0 "_law_closed" _ _ _ := ⟨⟨_, _, ok_closed F__law_closed T, g__law_closed, F__law_closed.kp, b__law_closed⟩⟩
  have D__law_is_integer : DOk P w K mg base CX0 "_law_is_integer" _ _ _ := ⟨⟨_, _, ok_isint F__law_is_integer T, g__law_is_integer, F__law_is_integer.kp, b__law_is_integer⟩⟩
  have S0 : DOk P w K mg base CX0 "_law_same" 1 ["told", "due"] (sp_same 0) := ⟨⟨_, _, Rd.fnFalse, g__law_same, F__law_same.kp, b__law_same⟩⟩
  have S1 : DOk P w K mg base CX0 "_law_same" 2 ["told", "due"] (sp_same 1) := ⟨⟨_, _, ok_same 0 F__law_same T D__law_is_integer S0, g__law_same, F__law_same.kp, b__law_same⟩⟩
  have S2 : DOk P w K mg base CX0 "_law_same" 3 ["told", "due"] (sp_same 2) := ⟨⟨_, _, ok_same 1 F__law_same T D__law_is_integer S1, g__law_same, F__law_same.kp, b__law_same⟩⟩
  have D__law_same : DOk P w K mg base CX0 "_law_same" 4 ["told", "due"] (sp_same 3) := ⟨⟨_, _, ok_same 2 F__law_same T D__law_is_integer S2, g__law_same, F__law_same.kp, b__law_same⟩⟩
  have D__law_widened : DOk P w K mg base CX0 "_law_widened" _ _ _ := ⟨⟨_, _, ok_wid F__law_widened T, g__law_widened, F__law_widened.kp, b__law_widened⟩⟩
  have D__law_pair_is : DOk P w K mg base CX0 "_law_pair_is" _ _ _ := ⟨⟨_, _, ok_pair F__law_pair_is T T4 D__law_same, g__law_pair_is, F__law_pair_is.kp, b__law_pair_is⟩⟩
  have D__law_permuted : DOk P w K mg base CX0 "_law_permuted" _ _ _ := ⟨⟨_, _, ok_perm2 F__law_permuted T D_from_permutations D__law_pair_is D__law_same, g__law_permuted, F__law_permuted.kp, b__law_permuted⟩⟩
  have D__law_subgroup : DOk P w K mg base CX0 "_law_subgroup" _ _ _ := ⟨⟨_, _, ok_lsub F__law_subgroup T D_subgroup_as_group D__law_pair_is D__law_same, g__law_subgroup, F__law_subgroup.kp, b__law_subgroup⟩⟩
  exact ok_law F_law T D__law_bag D__law_take D__law_table D__law_closed D__law_widened D__law_subgroup D__law_permuted D_from_permutations D__law_pair_is D_subgroup_as_group D__law_same D_Group M_eq
end K10

set_option Elab.async false
set_option linter.all false
namespace K10
open PySem PySem.Spec PyProof.Rows L2 Rd
set_option maxRecDepth 100000
set_option maxHeartbeats 0
theorem runL (w : World) : HandSHeadRun.RunEq RR (PySem.W.view RR.prog [36]) hkL obL 9000 looseL w := by
  intro os
  kernel_rfl
end K10
open PySem PySem.W PySem.Calls PyProof.Rows
set_option maxRecDepth 100000 in
set_option maxHeartbeats 0 in
theorem PySem.Challenge.cw_stepsvanish_k10_columns_as_permutations_holds : PySem.Challenge.rw_stepsvanish_k10_columns_as_permutations.Holds := by
  w_on; o_law
  refine HandSHeadRun.head_any (r := OpenLaw.row PySem.Challenge.rw_stepsvanish_k10_columns_as_permutations) (q := view (OpenLaw.row PySem.Challenge.rw_stepsvanish_k10_columns_as_permutations).prog [36]) (H := K10.hkL) (ob := K10.obL) (M := 9000) (loose := K10.looseL) (d := HandSHeadRun.topDef (OpenLaw.row PySem.Challenge.rw_stepsvanish_k10_columns_as_permutations).prog 36) (kwd := []) K10.obL_eq
    (by kernel_rfl) (fun s => by kernel_rfl) K10.runL (by kernel_rfl) (by kernel_rfl) (by kernel_rfl) (by rfl) (by first | assumption | decide +kernel) (by decide +kernel) ⟨rfl, rfl, rfl, rfl, rfl, by decide +kernel⟩ ?hw ?hc
  case hw => w_witness2
  case hc =>
    refine L2.walk_ofE (l := PySem.Challenge.rw_stepsvanish_k10_columns_as_permutations) (n := 63) (k := 7) (x := "script") (CX := L2.CX0) rfl (by decide) (by kernel_rfl) ⟨rfl, by decide, by decide⟩ ?F (fun _ _ _ _ z => z)
    intro w mg fa h Y G hmg0
    obtain ⟨K, KX, c, x⟩ := Y
    have hmg : mg ("law" : PySem.Str) = some (.ref fa) := by
      have e : (HandSHeadRun.topDef (OpenLaw.row PySem.Challenge.rw_stepsvanish_k10_columns_as_permutations).prog 36).name = ("law" : PySem.Str) := by kernel_rfl
      rw [← e]
      exact hmg0
    obtain ⟨fd, hb, hF⟩ := K10.factsL (P := (PySem.Challenge.rw_stepsvanish_k10_columns_as_permutations).prog) (w := w) KX G hmg c x
    exact ⟨K, fd, K10.sp_law K, KX, hb, fun H a ns hl _ hS => ⟨a, ns, rfl, hS, hl, fun _ => rfl⟩, hF⟩
