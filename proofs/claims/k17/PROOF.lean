import PyProof.Rows.All
import Wide.All
import OpenK.AllK
import Wide.FinOn
import HandS.ForMost
import HandS.IsInst
import HandS.Defaults
import HandS.MakeKwOnly
import HandS.Conv
import HandS.Wide
import HandS.TupAny
import HandS.SortInts
import HandS.Evl
import PyProof.TupleIter
import PyProof.WalksMore
import HandS.Sort
import HandS.SetFor
import HandS.Iter
import HandS.RevRange
import HandS.TupLe
import PyProof.P3Eq
import PySem.Challenge.RW_tidewarden_k17_whole_best_shares
set_option Elab.async false
set_option linter.all false
set_option maxRecDepth 100000
set_option maxHeartbeats 4000000
namespace Tw
open PySem PySem.Spec PyProof.Rows L2
/-! ### callees as they stand -/
structure Cal (P : Program) (w : World) (K : PySem.W.Frag) (mg : Str → Option Value) (base : Heap) (x : Str) (f : Addr) (fd : FuncData) (ps : List Str) (sp : Sp) (k : Nat) : Prop where
  G : FnOk P w K mg base CX0 k f fd ps sp
  m : mg x = some (.ref f)
  kp : PySem.W.keepIn K (.ref f) = true
  b : Binds K fd ps []
structure CalD (P : Program) (w : World) (K : PySem.W.Frag) (mg : Str → Option Value) (base : Heap) (x : Str) (f : Addr) (fd : FuncData) (ps : List Str) (sp : Sp) (k : Nat) : Prop where
  G : FnOk P w K mg base CX0 k f fd ps sp
  m : mg x = some (.ref f)
  kp : PySem.W.keepIn K (.ref f) = true
/-! ### operators by more than one kind -/
def orR (r1 r2 : R2) : R2 := fun x y H Q => r1 x y H Q ∨ r2 x y H Q
section
variable {X : Cx}
theorem or2 {f : Value → Value → Sem Value} {r1 r2 : R2} (h1 : OpR X f r1) (h2 : OpR X f r2) : OpR X f (orR r1 r2) :=
  fun pins s σ H x y v u Q I rx ry h => h.elim (h1 pins s σ H x y v u Q I rx ry) (h2 pins s σ H x y v u Q I rx ry)
def rAddS : R2 := fun x y H Q => ∃ i j, x = .str i ∧ y = .str j ∧ i.length + j.length ≤ sizeLine ∧ Q (.str (i ++ j)) H
def rAdd (K : PySem.W.Frag) : R2 := orR (rI0 fun i j => .int (i + j)) (orR (rCatA K) (orR rCat rAddS))
theorem opAdd : OpR X (binaryOp .Add) (rAdd X.K) := or2 op_add (or2 op_catA (or2 op_cat op_add_str))
def rMul : R2 := orR (rI CMul fun i j => .int (i * j)) (rI CMulW fun i j => .int (i * j))
theorem opMul : OpR X (binaryOp .Mult) rMul := or2 op_mul op_mulW
def rEqG (K : PySem.W.Frag) : R2 := orR rEq (rEqD K)
def rNeG (K : PySem.W.Frag) : R2 := orR rNe (rNeD K)
theorem opEq (hu : X.A.units + 64 < cLine) : OpR X (compareOp .Eq) (rEqG X.K) := or2 op_eq (op_eqD hu)
theorem opNe (hu : X.A.units + 64 < cLine) : OpR X (compareOp .NotEq) (rNeG X.K) := or2 op_ne (op_neD hu)
theorem opIn : OpR X (compareOp .In) (rIn X.K false) := op_in_seq
theorem opNotIn : OpR X (compareOp .NotIn) (rIn X.K true) := op_notIn_seq
def rLt : R2 := rI0 fun i j => .bl (decide (i < j))
theorem opLt : OpR X (compareOp .Lt) rLt := op_lt
def rSl (K : PySem.W.Frag) : V → Option Int → Option Int → Hp → VK → Prop := fun x lo hi H Q => rSlL K x lo hi H Q ∨ rSlA K x lo hi H Q
theorem slAny : SlR X (rSl X.K) := sl_list.or sl_tupA
def rLenG (K : PySem.W.Frag) : List V → Hp → VK → Prop := fun xs H Q => ∃ x n, xs = [x] ∧ LenV K x H n ∧ Q (V.int (n : Nat)) H
theorem callLen : CallR X (.builtin "len") (rLenG X.K) := call_len
def rInt1 : List V → Hp → VK → Prop := fun xs H Q => (∃ i, xs = [.int i] ∧ Q (.int i) H) ∨ ∃ k, xs = [.bl k] ∧ Q (.int (if k then 1 else 0)) H
theorem callInt1 : CallR X (.type "int") rInt1 := call_int1
def rListOf (K : PySem.W.Frag) : List V → Hp → VK → Prop := fun xs H Q => ∃ p ys, xs = [.ref p] ∧ (SqL K H p ys ∨ SqT K H p ys) ∧ ∀ l, H l = none → Q (.ref l) (upd H l (.lst ys))
theorem callListOf : CallR X (.type "list") (rListOf X.K) := call_list_of
def rTupOf (K : PySem.W.Frag) : List V → Hp → VK → Prop := fun xs H Q => ∃ p ys, xs = [.ref p] ∧ ((SqL K H p ys ∧ ∀ l, H l = none → Q (.ref l) (upd H l (.tup ys))) ∨ (SqT K H p ys ∧ Q (.ref p) H))
theorem callTupOf : CallR X (.type "tuple") (rTupOf X.K) := call_tuple_of
def rMx2 : List V → Hp → VK → Prop := fun xs H Q => ∃ i j, xs = [.int i, .int j] ∧ Q (.int (if j > i then j else i)) H
theorem callMax2 (hc : X.calm = true) : CallR X (.builtin "max") rMx2 := call_max2 hc
def rMn2 : List V → Hp → VK → Prop := fun xs H Q => ∃ i j, xs = [.int i, .int j] ∧ Q (.int (if j < i then j else i)) H
theorem callMin2 (hc : X.calm = true) : CallR X (.builtin "min") rMn2 := call_min2 hc
def iSeq (K : PySem.W.Frag) (tl : TE) : TI := fun σ H R => iList K tl σ H R ∨ iTup K tl σ H R
theorem piSeq {tg l : Expr} {tl : TE} (hl : PE X l tl) : PI X tg l (iSeq X.K tl) :=
  ⟨fun pins s σ H R I h => h.elim ((pi_list hl).run pins s σ H R I) ((pi_tup hl).run pins s σ H R I)⟩
end
section
variable {X : Cx} {K : PySem.W.Frag}
theorem opAddK (e : X.K = K) : OpR X (binaryOp .Add) (rAdd K) := e ▸ opAdd
theorem opEqK (e : X.K = K) (hu : X.A.units + 64 < cLine) : OpR X (compareOp .Eq) (rEqG K) := e ▸ opEq hu
theorem opNeK (e : X.K = K) (hu : X.A.units + 64 < cLine) : OpR X (compareOp .NotEq) (rNeG K) := e ▸ opNe hu
theorem opInK (e : X.K = K) : OpR X (compareOp .In) (rIn K false) := e ▸ opIn
theorem opNotInK (e : X.K = K) : OpR X (compareOp .NotIn) (rIn K true) := e ▸ opNotIn
theorem slAnyK (e : X.K = K) : SlR X (rSl K) := e ▸ slAny
theorem ixSeqK (e : X.K = K) : IxR X (rIx K) := e ▸ ix_seq
theorem piSeqK {tg l : Expr} {tl : TE} (e : X.K = K) (hl : PE X l tl) : PI X tg l (iSeq K tl) := e ▸ piSeq hl
theorem pgTupK {es : List Expr} {k n : Nat} {t : TGs} {pos : Pos} (e : X.K = K) (hc : X.calm = true) (h : PGs X es t)
    (hn : (assignEach es X.env).length = n := by rfl) (hst : (assignEach es X.env).findIdx? (·.1) = none := by rfl) : PG X (.Tuple es k pos) (gTup K n t) := by
  subst e
  exact pg_tup hc h hn hst
theorem peBmCast {ex : Expr} {T : String} {r : V → List V → Hp → VK → Prop} {to : TE} {t : TA} (e : X.K = K) (h : PE X ex (tBM X.K T r to t)) : PE X ex (tBM K T r to t) := e ▸ h
theorem callLenK (e : X.K = K) : CallR X (.builtin "len") (rLenG K) := e ▸ callLen
theorem callListOfK (e : X.K = K) : CallR X (.type "list") (rListOf K) := e ▸ callListOf
theorem callTupOfK (e : X.K = K) : CallR X (.type "tuple") (rTupOf K) := e ▸ callTupOf
theorem callIsiK (e : X.K = K) : CallR X (.builtin "isinstance") (rIsi K) := e ▸ call_isi
theorem callSumK (e : X.K = K) (hc : X.calm = true) : CallR X (.builtin "sum") (rSum K) := e ▸ cr_sum hc
theorem callMaxK (e : X.K = K) (hc : X.calm = true) : CallR X (.builtin "max") (rMax K) := e ▸ cr_max hc
theorem callMinK (e : X.K = K) (hc : X.calm = true) : CallR X (.builtin "min") (rMin K) := e ▸ cr_min hc
theorem callAnyK (e : X.K = K) (hc : X.calm = true) : CallR X (.builtin "any") (rAny K) := e ▸ cr_any hc
theorem callAllK (e : X.K = K) (hc : X.calm = true) : CallR X (.builtin "all") (rAll K) := e ▸ cr_all hc
theorem callSortedK (e : X.K = K) : CallR X (.builtin "sorted") (rSortedI K) := e ▸ cr_sortedI
end
theorem peGlobE {X : Cx} {x : Str} {v : V} {pos : Pos} (hg : Gl X x) (h : ∃ u, X.mg x = some u ∧ RelV v u) (hd : (x == ("__debug__" : Str)) = false := by decide) : PE X (.Name x pos) (tC v) := by
  obtain ⟨u, h1, h2⟩ := h
  exact pe_glob hg h1 h2 hd
def rAbs1 : List V → Hp → VK → Prop := fun xs H Q => ∃ i, xs = [.int i] ∧ Q (.int (if i < 0 then -i else i)) H
theorem callAbs {X : Cx} : CallR X (.builtin "abs") rAbs1 := call_abs
theorem o_abs {H : Hp} {Q : VK} {a : Int} (h : Q (.int (if a < 0 then -a else a)) H) : rAbs1 [.int a] H Q := ⟨a, rfl, h⟩
/-- a def with keyword-only parameters, out of which nothing is raised -/
theorem FunD.okN {P : Program} {w : World} {K : PySem.W.Frag} {mg : Str → Option Value} {base : Heap} {x qual : Str} {params : Arguments} {body : List Stmt} {scope : Scope} {dvs : List V} {kws : List (Str × V)} {f : Addr} {fd : FuncData} {N ps : List Str} {k : Nat} {sp : Sp} (F : FunD K x qual params body scope dvs kws f fd) (S : FnScope N ps scope) (len : ∀ vs H Q E, sp vs H Q E → vs.length = ps.length)
    (hbody : ∀ (cdv : Value) (A : Around) (outer : List Env) (s : Shared) (H : Hp) (vs : List V) (Q : VK) (E : XK), Room k (A.deeper (envOfC qual scope s.heap.objs.size f cdv)) → sp vs H Q E →
      ∃ t, PSs (cxOf CX0 P w K mg base N qual scope f cdv A outer s H E).nox body t ∧ t { nx := fun _ H' => Q .non H', rt := Q } (start N vs) H) : FnOk P w K mg base CX0 (k + 1) f fd ps sp :=
  F.ok S len fun cdv A outer s H vs Q E hr hsp => by
    obtain ⟨t, h, q⟩ := hbody cdv A outer s H vs Q E hr hsp
    exact ⟨t, h.nox, q⟩
/-! ### heaps -/
theorem same_new {H : Hp} {p : Addr} {o : HO} (h : H p = none) : Same H (upd H p o) := fun b x e => by
  rw [upd_ne (ne_of_none e h)]
  exact e
theorem same_rd {H H' : Hp} {a : Addr} {u : HO} (e : Same H H') (h : Rd H a u) : Rd H' a u := by
  rcases h with h | ⟨o, h⟩
  · exact Or.inl (e a _ h)
  · exact Or.inr ⟨o, e a _ h⟩
theorem Same.seqT {K : PySem.W.Frag} {H H' : Hp} {a : Addr} {xs : List V} (e : Same H H') (h : SqT K H a xs) : SqT K H' a xs := by
  rcases h with h | h
  · exact Or.inl (same_rd e h)
  · exact Or.inr h
/-- what is at p alone may have changed -/
def But (p : Addr) (H H' : Hp) : Prop := ∀ a o, a ≠ p → H a = some o → H' a = some o
theorem But.refl (p : Addr) (H : Hp) : But p H H := fun _ _ _ h => h
theorem But.trans {p : Addr} {H H1 H2 : Hp} (a : But p H H1) (b : But p H1 H2) : But p H H2 := fun c o n h => b c o n (a c o n h)
theorem But.of {p : Addr} {H H' : Hp} (e : Same H H') : But p H H' := fun a o _ h => e a o h
theorem But.upd {p : Addr} {H : Hp} {o : HO} : But p H (upd H p o) := fun a u n h => by
  rw [upd_ne n]
  exact h
/-! ### new objects, by any name and heap -/
def Fresh (H : Hp) (o : HO) (Q : VK) : Prop := ∀ p H', H p = none → Same H H' → H' p = some o → Q (.ref p) H'
theorem fresh_of {H : Hp} {Q : VK} {o : HO} (h : Fresh H o Q) : ∀ p, H p = none → Q (.ref p) (upd H p o) := fun p np => h p _ np (same_new np) upd_same
/-! ### what follows, by name -/
def kOp1 (r : R2) (tb : TE) (σ : L2.St) (Q : VK) : VK := fun x H1 => tb σ H1 fun y H2 => r x y H2 Q
def kOp2 (r : R2) (x : V) (Q : VK) : VK := fun y H2 => r x y H2 Q
def kUn (r : V → Hp → VK → Prop) (Q : VK) : VK := fun x H1 => r x H1 Q
def kCB (r : List V → Hp → VK → Prop) (Q : VK) : List V → Hp → Prop := fun vs H1 => r vs H1 Q
def kCons1 (tr : TA) (σ : L2.St) (QA : List V → Hp → Prop) : VK := fun x H1 => tr σ H1 fun xs H2 => QA (x :: xs) H2
def kCons2 (x : V) (QA : List V → Hp → Prop) : List V → Hp → Prop := fun xs H2 => QA (x :: xs) H2
def kTup (Q : VK) : List V → Hp → Prop := fun xs H1 => xs.length ≤ sizeLine ∧ ∀ p, H1 p = none → Q (.ref p) (upd H1 p (.tup xs))
def kLst (Q : VK) : List V → Hp → Prop := fun xs H1 => xs.length ≤ sizeLine ∧ ∀ p, H1 p = none → Q (.ref p) (upd H1 p (.lst xs))
def kCall (sp : Sp) (dvs : List V) (E : XK) (Q : VK) : List V → Hp → Prop := fun vs H1 => sp (vs ++ dvs) H1 Q E
def kCallN1 (n m : Nat) (sp : Sp) (gV : List V → List V → List V) (E : XK) (tk : TA) (σ : L2.St) (Q : VK) : List V → Hp → Prop := fun vs H1 => tk σ H1 fun zs H2 => vs.length = n ∧ zs.length = m ∧ sp (gV vs zs) H2 Q E
def kCallN2 (n m : Nat) (sp : Sp) (gV : List V → List V → List V) (E : XK) (vs : List V) (Q : VK) : List V → Hp → Prop := fun zs H2 => vs.length = n ∧ zs.length = m ∧ sp (gV vs zs) H2 Q E
def kIf (ta tb : TE) (σ : L2.St) (Q : VK) : Bool → Hp → Prop := fun c H1 => if c = true then ta σ H1 Q else tb σ H1 Q
def kAndV (tb : TE) (σ : L2.St) (Q : VK) : VK := fun x H1 => ∃ c, x = .bl c ∧ if c = true then tb σ H1 Q else Q (.bl false) H1
def kOrV (tb : TE) (σ : L2.St) (Q : VK) : VK := fun x H1 => ∃ c, x = .bl c ∧ if c = true then Q (.bl true) H1 else tb σ H1 Q
def kNotV (Q : VK) : VK := fun x H1 => ∃ c, x = .bl c ∧ Q (.bl (!c)) H1
def kIsN (Q : VK) : VK := fun x H1 => Q (.bl (decide (x = .non))) H1
def kNotN (Q : VK) : VK := fun x H1 => Q (.bl (!decide (x = .non))) H1
def kSl1 (r : V → Option Int → Option Int → Hp → VK → Prop) (tl th : TO) (σ : L2.St) (Q : VK) : VK := fun x H1 => tl σ H1 fun l H2 => th σ H2 fun u H3 => r x l u H3 Q
def kSl2 (r : V → Option Int → Option Int → Hp → VK → Prop) (th : TO) (x : V) (σ : L2.St) (Q : VK) : Option Int → Hp → Prop := fun l H2 => th σ H2 fun u H3 => r x l u H3 Q
def kSl3 (r : V → Option Int → Option Int → Hp → VK → Prop) (x : V) (l : Option Int) (Q : VK) : Option Int → Hp → Prop := fun u H3 => r x l u H3 Q
def kPart (QO : Option Int → Hp → Prop) : VK := fun x H1 => ∃ i, x = .int i ∧ QO (some i) H1
def kBM1 (K : PySem.W.Frag) (T : String) (r : V → List V → Hp → VK → Prop) (ts : TA) (σ : L2.St) (Q : VK) : VK := fun x H1 => tyV K T x H1 ∧ ts σ H1 fun xs H2 => r x xs H2 Q
def kBM2 (r : V → List V → Hp → VK → Prop) (x : V) (Q : VK) : List V → Hp → Prop := fun xs H2 => r x xs H2 Q
def kTest (QB : Bool → Hp → Prop) : VK := fun x H1 => ∃ k, x = .bl k ∧ QB k H1
def kAnd (u : TT) (σ : L2.St) (QB : Bool → Hp → Prop) : Bool → Hp → Prop := fun c H1 => if c = true then u σ H1 QB else QB false H1
def kOr (u : TT) (σ : L2.St) (QB : Bool → Hp → Prop) : Bool → Hp → Prop := fun c H1 => if c = true then QB true H1 else u σ H1 QB
def kNot (QB : Bool → Hp → Prop) : Bool → Hp → Prop := fun c H1 => QB (!c) H1
def kAsg (g : TG) (D : Ends) (σ : L2.St) : VK := fun x H1 => g x σ H1 D.nx
def kDrop (D : Ends) (σ : L2.St) : VK := fun _ H1 => D.nx σ H1
def kIfS (t u : TS) (D : Ends) (σ : L2.St) : Bool → Hp → Prop := fun b H1 => if b = true then t D σ H1 else u D σ H1
def kGs (u : TGs) (r : List V) (QS : L2.St → Hp → Prop) : L2.St → Hp → Prop := fun σ' H' => u r σ' H' QS
def kSub1 (ti : TE) (ts : TSet) (v : V) (σ : L2.St) (QS : L2.St → Hp → Prop) : VK := fun o H1 => ti σ H1 fun i H2 => ts o i v H2 fun H3 => QS σ H3
def kSub2 (ts : TSet) (o v : V) (σ : L2.St) (QS : L2.St → Hp → Prop) : VK := fun i H2 => ts o i v H2 fun H3 => QS σ H3
def kAug (ti : TIp) (i : Nat) (x : V) (D : Ends) (σ : L2.St) : VK := fun y H1 => ti x y H1 fun z H2 => D.nx (σ.set i (some z)) H2
/-- the word of a for loop over the iterator J -/
def LoopW (J : It) (g : TG) (tb : TS) (D : Ends) (σ : L2.St) (H1 : Hp) : Prop := ∃ W : Nat → Nat → L2.St → Hp → Prop, (∃ m, W 0 m σ H1) ∧ ∀ i m σ H, W i m σ H →
  (J.stop i H ∧ D.nx σ H) ∨ (J.go i H ∧ ∃ N : L2.St → Hp → Prop, (∀ σ' H', N σ' H' → ∃ m', m' < m ∧ W (i + 1) m' σ' H') ∧ ∀ x H', J.yld i H x H' → g x σ H' fun σ2 H2 => tb { D with nx := N, ct := N, bk := D.nx } σ2 H2)
def kForL (K : PySem.W.Frag) (g : TG) (tb : TS) (D : Ends) (σ : L2.St) : VK := fun x H1 => ∃ a, x = .ref a ∧ (∃ xs, SqL K H1 a xs) ∧ LoopW (Itl K a) g tb D σ H1
def kForT (K : PySem.W.Frag) (g : TG) (tb : TS) (D : Ends) (σ : L2.St) : VK := fun x H1 => ∃ a, x = .ref a ∧ (∃ xs, SqT K H1 a xs) ∧ LoopW (Itt K a) g tb D σ H1
def kForR1 (g : TG) (tb : TS) (D : Ends) (σ : L2.St) : List V → Hp → Prop := fun vs H1 => ∃ j : Int, vs = [.int j] ∧ -(2 ^ 62) ≤ j ∧ j < 2 ^ 62 ∧ LoopW (Itr 0 j.toNat) g tb D σ H1
def kForR2 (g : TG) (tb : TS) (D : Ends) (σ : L2.St) : List V → Hp → Prop := fun vs H1 => ∃ i j : Int, vs = [.int i, .int j] ∧ (-(2 ^ 62) ≤ i ∧ i < 2 ^ 62 ∧ -(2 ^ 62) ≤ j ∧ j < 2 ^ 62) ∧ LoopW (Itr i (j - i).toNat) g tb D σ H1
/-- the word of a comprehension over the iterator J -/
def CompW (J : It) (g : TG) (tt : TT) (te : TE) (vs : List Nat) (σ : L2.St) (Q : VK) (H1 : Hp) : Prop := ∀ D, H1 D = none → ∃ W : Nat → Nat → Hp → Prop, (∃ m, W 0 m (upd H1 D (.lst []))) ∧ ∀ i m H, W i m H →
  (J.stop i H ∧ Q (.ref D) H) ∨ (J.go i H ∧ ∃ Nx : Hp → Prop, (∀ H', Nx H' → ∃ m', m' < m ∧ W (i + 1) m' H') ∧ ∀ x H', J.yld i H x H' → g x (wipe σ vs) H' fun σ2 H2 => wipe σ2 vs = wipe σ vs ∧ tt σ2 H2 fun b H3 =>
    if b = true then te σ2 H3 fun y H4 => ∃ acc, H4 D = some (.lst acc) ∧ acc.length < sizeLine ∧ Nx (upd H4 D (.lst (acc ++ [y]))) else Nx H3)
def kLcL (K : PySem.W.Frag) (g : TG) (tt : TT) (te : TE) (vs : List Nat) (σ : L2.St) (Q : VK) : VK := fun x H1 => ∃ a, x = .ref a ∧ (∃ xs, SqL K H1 a xs) ∧ CompW (Itl K a) g tt te vs σ Q H1
def kLcT (K : PySem.W.Frag) (g : TG) (tt : TT) (te : TE) (vs : List Nat) (σ : L2.St) (Q : VK) : VK := fun x H1 => ∃ a, x = .ref a ∧ (∃ xs, SqT K H1 a xs) ∧ CompW (Itt K a) g tt te vs σ Q H1
def kLcR1 (g : TG) (tt : TT) (te : TE) (vs : List Nat) (σ : L2.St) (Q : VK) : List V → Hp → Prop := fun ws H1 => ∃ j : Int, ws = [.int j] ∧ -(2 ^ 62) ≤ j ∧ j < 2 ^ 62 ∧ CompW (Itr 0 j.toNat) g tt te vs σ Q H1
def kLcR2 (g : TG) (tt : TT) (te : TE) (vs : List Nat) (σ : L2.St) (Q : VK) : List V → Hp → Prop := fun ws H1 => ∃ i j : Int, ws = [.int i, .int j] ∧ (-(2 ^ 62) ≤ i ∧ i < 2 ^ 62 ∧ -(2 ^ 62) ≤ j ∧ j < 2 ^ 62) ∧ CompW (Itr i (j - i).toNat) g tt te vs σ Q H1
def kTst (te : TE) (D : Addr) (σ2 : L2.St) (Nx : Hp → Prop) : Bool → Hp → Prop := fun b H3 => if b = true then te σ2 H3 fun y H4 => ∃ acc, H4 D = some (.lst acc) ∧ acc.length < sizeLine ∧ Nx (upd H4 D (.lst (acc ++ [y]))) else Nx H3
def kElt (D : Addr) (Nx : Hp → Prop) : VK := fun y H4 => ∃ acc, H4 D = some (.lst acc) ∧ acc.length < sizeLine ∧ Nx (upd H4 D (.lst (acc ++ [y])))
def kChain1 (r r' : R2) (tb tc : TE) (σ : L2.St) (Q : VK) : VK := fun x H1 => tb σ H1 fun y H2 => r x y H2 fun z H3 => ∃ k, z = .bl k ∧ (if k = true then tc σ H3 fun w' H4 => r' y w' H4 Q else Q (.bl false) H3)
def kChain2 (r r' : R2) (tc : TE) (x : V) (σ : L2.St) (Q : VK) : VK := fun y H2 => r x y H2 fun z H3 => ∃ k, z = .bl k ∧ (if k = true then tc σ H3 fun w' H4 => r' y w' H4 Q else Q (.bl false) H3)
def kChain3 (r' : R2) (tc : TE) (y : V) (σ : L2.St) (Q : VK) : VK := fun z H3 => ∃ k, z = .bl k ∧ (if k = true then tc σ H3 fun w' H4 => r' y w' H4 Q else Q (.bl false) H3)
def kRg1 (QR : Int → Int → Hp → Prop) : VK := fun x H1 => ∃ n, x = .int n ∧ QR 0 n H1
def kRg2 (tb : TE) (σ : L2.St) (QR : Int → Int → Hp → Prop) : VK := fun x H1 => tb σ H1 fun y H2 => ∃ i j, x = .int i ∧ y = .int j ∧ QR i j H2
def kRg3 (x : V) (QR : Int → Int → Hp → Prop) : VK := fun y H2 => ∃ i j, x = .int i ∧ y = .int j ∧ QR i j H2
def kLstRg (Q : VK) : Int → Int → Hp → Prop := fun a b H1 => RgOk a b ∧ ∀ q, H1 q = none → Q (.ref q) (upd H1 q (.lst (rgV a b)))
/-! ### readings, step by step -/
section
variable {K : PySem.W.Frag} {σ : L2.St} {H : Hp} {Q : VK} {QB : Bool → Hp → Prop} {QA : List V → Hp → Prop} {QO : Option Int → Hp → Prop} {QS : L2.St → Hp → Prop} {QR : Int → Int → Hp → Prop} {ta tb tc te : TE} {t u : TT} {ts tr tk : TA} {tl th : TO} {v x y : V} {i n m : Nat} {r r' : R2} {D : Ends} {s1 s2 : TS} {g : TG} {gs : TGs} {xs vs : List V}
theorem w_var (h : σ[i]? = some (some v)) (q : Q v H) : tVar i σ H Q := ⟨v, h, q⟩
theorem w_c (q : Q v H) : tC v σ H Q := q
theorem w_op (h : ta σ H (kOp1 r tb σ Q)) : tOp r ta tb σ H Q := h
theorem w_op1 (h : tb σ H (kOp2 r x Q)) : kOp1 r tb σ Q x H := h
theorem w_op2 (h : r x y H Q) : kOp2 r x Q y H := h
theorem w_un {r : V → Hp → VK → Prop} (h : ta σ H (kUn r Q)) : tUn r ta σ H Q := h
theorem w_un1 {r : V → Hp → VK → Prop} (h : r x H Q) : kUn r Q x H := h
theorem w_cb {r : List V → Hp → VK → Prop} (h : ts σ H (kCB r Q)) : tCB r ts σ H Q := h
theorem w_cb1 {r : List V → Hp → VK → Prop} (h : r xs H Q) : kCB r Q xs H := h
theorem w_nil (q : QA [] H) : tNil σ H QA := q
theorem w_cons (h : ta σ H (kCons1 tr σ QA)) : tCons ta tr σ H QA := h
theorem w_cons1 (h : tr σ H (kCons2 x QA)) : kCons1 tr σ QA x H := h
theorem w_cons2 (h : QA (x :: xs) H) : kCons2 x QA xs H := h
theorem w_tup (h : ts σ H (kTup Q)) : tTup ts σ H Q := h
theorem w_lst (h : ts σ H (kLst Q)) : tLst ts σ H Q := h
theorem k_tup (hl : xs.length ≤ 1000) (h : Fresh H (.tup xs) Q) : kTup Q xs H := ⟨Nat.le_trans hl (by decide), fresh_of h⟩
theorem k_lst (hl : xs.length ≤ 1000) (h : Fresh H (.lst xs) Q) : kLst Q xs H := ⟨Nat.le_trans hl (by decide), fresh_of h⟩
theorem w_call {sp : Sp} {dvs : List V} {E : XK} (h : ts σ H (kCall sp dvs E Q)) : tCall sp dvs E ts σ H Q := h
theorem k_call {sp : Sp} {E : XK} (h : sp vs H Q E) : kCall sp [] E Q vs H := by
  show sp (vs ++ []) H Q E
  rw [List.append_nil]
  exact h
theorem k_callD {sp : Sp} {dvs : List V} {E : XK} (h : sp (vs ++ dvs) H Q E) : kCall sp dvs E Q vs H := h
theorem w_callN {sp : Sp} {gV : List V → List V → List V} {E : XK} (h : ts σ H (kCallN1 n m sp gV E tk σ Q)) : tCallN n m sp gV E ts tk σ H Q := h
theorem w_callN1 {sp : Sp} {gV : List V → List V → List V} {E : XK} (h : tk σ H (kCallN2 n m sp gV E vs Q)) : kCallN1 n m sp gV E tk σ Q vs H := h
theorem k_callN {sp : Sp} {gV : List V → List V → List V} {E : XK} (h1 : vs.length = n) (h2 : xs.length = m) (h : sp (gV vs xs) H Q E) : kCallN2 n m sp gV E vs Q xs H := ⟨h1, h2, h⟩
theorem w_if (h : t σ H (kIf ta tb σ Q)) : tIf t ta tb σ H Q := h
theorem k_if {b : Bool} (h1 : b = true → ta σ H Q) (h2 : b = false → tb σ H Q) : kIf ta tb σ Q b H := by
  cases b with
  | true => exact h1 rfl
  | false => exact h2 rfl
theorem w_andV (h : ta σ H (kAndV tb σ Q)) : tAndV ta tb σ H Q := h
theorem k_andV {b : Bool} (h1 : b = true → tb σ H Q) (h2 : b = false → Q (.bl false) H) : kAndV tb σ Q (.bl b) H := ⟨b, rfl, by
  cases b with
  | true => exact h1 rfl
  | false => exact h2 rfl⟩
theorem w_orV (h : ta σ H (kOrV tb σ Q)) : tOrV ta tb σ H Q := h
theorem k_orV {b : Bool} (h1 : b = true → Q (.bl true) H) (h2 : b = false → tb σ H Q) : kOrV tb σ Q (.bl b) H := ⟨b, rfl, by
  cases b with
  | true => exact h1 rfl
  | false => exact h2 rfl⟩
theorem w_notV (h : ta σ H (kNotV Q)) : tNotV ta σ H Q := h
theorem k_notV {b : Bool} (h : Q (.bl (!b)) H) : kNotV Q (.bl b) H := ⟨b, rfl, h⟩
theorem w_isN (h : ta σ H (kIsN Q)) : tIsN ta σ H Q := h
theorem k_isNn (h : Q (.bl true) H) : kIsN Q .non H := h
theorem k_isNi {j : Int} (h : Q (.bl false) H) : kIsN Q (.int j) H := h
theorem k_isNr {a : Addr} (h : Q (.bl false) H) : kIsN Q (.ref a) H := h
theorem k_isNs {z : Str} (h : Q (.bl false) H) : kIsN Q (.str z) H := h
theorem k_isNb {b : Bool} (h : Q (.bl false) H) : kIsN Q (.bl b) H := h
theorem w_notN (h : ta σ H (kNotN Q)) : tNotN ta σ H Q := h
theorem k_notNn (h : Q (.bl false) H) : kNotN Q .non H := h
theorem k_notNi {j : Int} (h : Q (.bl true) H) : kNotN Q (.int j) H := h
theorem k_notNr {a : Addr} (h : Q (.bl true) H) : kNotN Q (.ref a) H := h
theorem k_notNs {z : Str} (h : Q (.bl true) H) : kNotN Q (.str z) H := h
theorem w_sl {r : V → Option Int → Option Int → Hp → VK → Prop} (h : te σ H (kSl1 r tl th σ Q)) : tSl r te tl th σ H Q := h
theorem w_sl1 {r : V → Option Int → Option Int → Hp → VK → Prop} (h : tl σ H (kSl2 r th x σ Q)) : kSl1 r tl th σ Q x H := h
theorem w_sl2 {r : V → Option Int → Option Int → Hp → VK → Prop} {l : Option Int} (h : th σ H (kSl3 r x l Q)) : kSl2 r th x σ Q l H := h
theorem w_sl3 {r : V → Option Int → Option Int → Hp → VK → Prop} {l o : Option Int} (h : r x l o H Q) : kSl3 r x l Q o H := h
theorem w_part (h : te σ H (kPart QO)) : tPart te σ H QO := h
theorem k_part {j : Int} (h : QO (some j) H) : kPart QO (.int j) H := ⟨j, rfl, h⟩
theorem w_nopart (h : QO none H) : tNoPart σ H QO := h
theorem w_bm {T : String} {r : V → List V → Hp → VK → Prop} (h : ta σ H (kBM1 K T r ts σ Q)) : tBM K T r ta ts σ H Q := h
theorem k_bmL {r : V → List V → Hp → VK → Prop} {a : Addr} (hl : SqL K H a xs) (h : ts σ H (kBM2 r (.ref a) Q)) : kBM1 K "list" r ts σ Q (.ref a) H := ⟨.inl ⟨rfl, xs, hl⟩, h⟩
theorem w_bm2 {r : V → List V → Hp → VK → Prop} (h : r x xs H Q) : kBM2 r x Q xs H := h
theorem w_test (h : te σ H (kTest QB)) : tTest te σ H QB := h
theorem w_tB (h : te σ H (kTest QB)) : tB te σ H QB := h
theorem k_test {b : Bool} (h : QB b H) : kTest QB (.bl b) H := ⟨b, rfl, h⟩
theorem w_and (h : t σ H (kAnd u σ QB)) : tAnd t u σ H QB := h
theorem k_and {b : Bool} (h1 : b = true → u σ H QB) (h2 : b = false → QB false H) : kAnd u σ QB b H := by
  cases b with
  | true => exact h1 rfl
  | false => exact h2 rfl
theorem w_or (h : t σ H (kOr u σ QB)) : tOr t u σ H QB := h
theorem k_or {b : Bool} (h1 : b = true → QB true H) (h2 : b = false → u σ H QB) : kOr u σ QB b H := by
  cases b with
  | true => exact h1 rfl
  | false => exact h2 rfl
theorem w_not (h : t σ H (kNot QB)) : tNot t σ H QB := h
theorem k_not {b : Bool} (h : QB (!b) H) : kNot QB b H := h
theorem k_ifT (h : ta σ H Q) : kIf ta tb σ Q true H := h
theorem k_ifF (h : tb σ H Q) : kIf ta tb σ Q false H := h
theorem k_andVT (h : tb σ H Q) : kAndV tb σ Q (.bl true) H := ⟨true, rfl, h⟩
theorem k_andVF (h : Q (.bl false) H) : kAndV tb σ Q (.bl false) H := ⟨false, rfl, h⟩
theorem k_orVT (h : Q (.bl true) H) : kOrV tb σ Q (.bl true) H := ⟨true, rfl, h⟩
theorem k_orVF (h : tb σ H Q) : kOrV tb σ Q (.bl false) H := ⟨false, rfl, h⟩
theorem k_andT (h : u σ H QB) : kAnd u σ QB true H := h
theorem k_andF (h : QB false H) : kAnd u σ QB false H := h
theorem k_orT (h : QB true H) : kOr u σ QB true H := h
theorem k_orF (h : u σ H QB) : kOr u σ QB false H := h
theorem k_notT (h : QB false H) : kNot QB true H := h
theorem k_notF (h : QB true H) : kNot QB false H := h
theorem k_ifST (h : s1 D σ H) : kIfS s1 s2 D σ true H := h
theorem k_ifSF (h : s2 D σ H) : kIfS s1 s2 D σ false H := h
theorem k_tstT {dd : Addr} {Nx : Hp → Prop} (h : te σ H (kElt dd Nx)) : kTst te dd σ Nx true H := h
theorem k_tstF {dd : Addr} {Nx : Hp → Prop} (h : Nx H) : kTst te dd σ Nx false H := h
theorem w_seq (h : s1 { D with nx := s2 D } σ H) : tSeq s1 s2 D σ H := h
theorem w_asg (h : te σ H (kAsg g D σ)) : tAsg te g D σ H := h
theorem k_name (h : D.nx (σ.set i (some v)) H) : kAsg (gName i) D σ v H := h
theorem k_asg (h : g v σ H D.nx) : kAsg g D σ v H := h
theorem g_name (h : QS (σ.set i (some v)) H) : gName i v σ H QS := h
theorem g_tup {a : Addr} (hs : SqT K H a xs) (hl : xs.length = n) (h : gs xs σ H QS) : gTup K n gs (.ref a) σ H QS := ⟨a, xs, rfl, hs, hl, h⟩
theorem g_cons (h : g v σ H (kGs gs vs QS)) : gCons g gs (v :: vs) σ H QS := ⟨v, vs, rfl, h⟩
theorem k_gs (h : gs vs σ H QS) : kGs gs vs QS σ H := h
theorem g_nil (h : QS σ H) : gNil [] σ H QS := ⟨rfl, h⟩
theorem ixN_lit {n j : Nat} {z : Int} (e : z = (j : Int)) (hj : j < n) : ixN n z = some j := by
  subst e
  unfold ixN
  rw [if_pos (by omega), if_pos (by omega)]
  simp
theorem at_lit (j : Nat) {z : Int} (e : z = (j : Int)) (h : xs[j]? = some v) : atI xs z = some v := by
  subst e
  exact atI_nat h
theorem at_m1 (h : xs.getLast? = some v) : atI xs (-1) = some v := by
  obtain ⟨ys, rfl⟩ := List.getLast?_eq_some_iff.mp h
  exact atI_last _ _
theorem k_sub2G {l : Addr} (j : Nat) {z : Int} (e : z = (j : Int)) (hl : H l = some (.lst xs)) (hj : j < xs.length) (h : ∀ H', But l H H' → H' l = some (.lst (xs.set j v)) → QS σ H') : kSub2 rSetL (.ref l) v σ QS (.int z) H := ⟨l, xs, z, j, rfl, rfl, hl, ixN_lit e hj, h _ But.upd upd_same⟩
theorem g_sub {tset : TSet} (h : ta σ H (kSub1 tb tset v σ QS)) : gSub ta tb tset v σ H QS := h
theorem k_sub1 {tset : TSet} (h : tb σ H (kSub2 tset x v σ QS)) : kSub1 tb tset v σ QS x H := h
theorem k_sub2 {l : Addr} {k : Nat} {z : Int} (hl : H l = some (.lst xs)) (hk : ixN xs.length z = some k) (h : QS σ (upd H l (.lst (xs.set k v)))) : kSub2 rSetL (.ref l) v σ QS (.int z) H := ⟨l, xs, z, k, rfl, rfl, hl, hk, h⟩
theorem w_drop (h : te σ H (kDrop D σ)) : tDrop te D σ H := h
theorem k_drop (h : D.nx σ H) : kDrop D σ v H := h
theorem w_ret (h : te σ H D.rt) : tRet te D σ H := h
theorem w_retN (h : D.rt .non H) : tRetN D σ H := h
theorem w_ifS (h : t σ H (kIfS s1 s2 D σ)) : tIfS t s1 s2 D σ H := h
theorem k_ifS {b : Bool} (h1 : b = true → s1 D σ H) (h2 : b = false → s2 D σ H) : kIfS s1 s2 D σ b H := by
  cases b with
  | true => exact h1 rfl
  | false => exact h2 rfl
theorem w_next (h : D.nx σ H) : tNext D σ H := h
theorem w_aug {ti : TIp} (hx : σ[i]? = some (some x)) (h : te σ H (kAug ti i x D σ)) : tAug i te ti D σ H := ⟨x, hx, h⟩
theorem k_aug {a b : Int} {f : Int → Int → Int} (h : D.nx (σ.set i (some (.int (f a b)))) H) : kAug (ipI f) i (.int a) D σ (.int b) H := ⟨a, b, rfl, rfl, h⟩
theorem w_chain (h : ta σ H (kChain1 r r' tb tc σ Q)) : tChain r r' ta tb tc σ H Q := h
theorem w_chain1 (h : tb σ H (kChain2 r r' tc x σ Q)) : kChain1 r r' tb tc σ Q x H := h
theorem w_chain2 (h : r x y H (kChain3 r' tc y σ Q)) : kChain2 r r' tc x σ Q y H := h
theorem k_chain3 {b : Bool} (h1 : b = true → tc σ H (kOp2 r' y Q)) (h2 : b = false → Q (.bl false) H) : kChain3 r' tc y σ Q (.bl b) H := ⟨b, rfl, by
  cases b with
  | true => exact h1 rfl
  | false => exact h2 rfl⟩
theorem w_lrg1 (h : ta σ H (kRg1 (kLstRg Q))) : tLstRg (tRg1 ta) σ H Q := h
theorem w_lrg2 (h : ta σ H (kRg2 tb σ (kLstRg Q))) : tLstRg (tRg2 ta tb) σ H Q := h
theorem k_rg1 {j : Int} (h : QR 0 j H) : kRg1 QR (.int j) H := ⟨j, rfl, h⟩
theorem k_rg2 (h : tb σ H (kRg3 x QR)) : kRg2 tb σ QR x H := h
theorem k_rg3 {a b : Int} (h : QR a b H) : kRg3 (.int a) QR (.int b) H := ⟨a, b, rfl, rfl, h⟩
theorem k_lrg {a b : Int} (h1 : -1000000 ≤ a) (h2 : a ≤ 1000000) (h3 : -1000000 ≤ b) (h4 : b ≤ 1000000) (h : Fresh H (.lst (rgV a b)) Q) : kLstRg Q a b H := ⟨⟨by omega, by omega, by omega, by omega, by
  have e : (2 : Nat) ^ 24 = 16777216 := by decide
  omega⟩, fresh_of h⟩
/-! operators by values -/
theorem o_addI {a b : Int} (h : Q (.int (a + b)) H) : rAdd K (.int a) (.int b) H Q := .inl ⟨a, b, rfl, rfl, h⟩
theorem o_addT {a b : Addr} {xs ys : List V} (ha : SqT K H a xs) (hb : SqT K H b ys) (hl : xs.length + ys.length ≤ 1000) (h : ∀ p H', Same H H' → SqT K H' p (xs ++ ys) → Q (.ref p) H') : rAdd K (.ref a) (.ref b) H Q :=
  .inr (.inl ⟨a, b, xs, ys, rfl, rfl, ha, hb, Nat.le_trans hl (by decide), fun e => h b H (Same.refl H) (by rw [e]; exact hb), fun _ e => h a H (Same.refl H) (by rw [e, List.append_nil]; exact ha), fun _ _ p np => h p _ (same_new np) (SqT.of upd_same)⟩)
theorem o_addL {a b : Addr} {xs ys : List V} (ha : H a = some (.lst xs)) (hb : H b = some (.lst ys)) (hl : xs.length + ys.length ≤ 100000) (h : Fresh H (.lst (xs ++ ys)) Q) : rAdd K (.ref a) (.ref b) H Q :=
  .inr (.inr (.inl ⟨a, b, xs, ys, rfl, rfl, ha, hb, Nat.le_trans hl (by decide), fresh_of h⟩))
theorem o_mulR {a b : Int} (hb : -(2 ^ 64) < b ∧ b < 2 ^ 64) (h : Q (.int (a * b)) H) : rMul (.int a) (.int b) H Q := .inl ⟨a, b, rfl, rfl, .inr hb, h⟩
theorem o_mulL {a b : Int} (ha : -(2 ^ 64) < a ∧ a < 2 ^ 64) (h : Q (.int (a * b)) H) : rMul (.int a) (.int b) H Q := .inl ⟨a, b, rfl, rfl, .inl ha, h⟩
theorem o_mod {a b : Int} {G : Int → Int → V} (hb : 0 < b) (h : Q (G a b) H) : rI (fun _ j => 0 < j) G (.int a) (.int b) H Q := ⟨a, b, rfl, rfl, hb, h⟩
theorem o_div {a b : Int} (hb : 0 < b) (hz : b < 2 ^ 64) (h : Q (.int (a / b)) H) : rI CDivW (fun i j => .int (i / j)) (.int a) (.int b) H Q := ⟨a, b, rfl, rfl, wide_div (b := 64) hb (by omega) (by decide) (by decide), h⟩
theorem o_I0 {a b : Int} {G : Int → Int → V} (h : Q (G a b) H) : rI0 G (.int a) (.int b) H Q := ⟨a, b, rfl, rfl, h⟩
theorem o_lt {a b : Int} (h : Q (.bl (decide (a < b))) H) : rLt (.int a) (.int b) H Q := ⟨a, b, rfl, rfl, h⟩
theorem o_eqI {a b : Int} (h : Q (.bl (decide (a = b))) H) : rEqG K (.int a) (.int b) H Q := .inl ⟨rfl, by
  have e : decide (V.int a = V.int b) = decide (a = b) := by
    rw [dec_int, Bool.beq_eq_decide_eq]
  rw [e]
  exact h⟩
theorem o_eqB {a b : Bool} (h : Q (.bl (decide (a = b))) H) : rEqG K (.bl a) (.bl b) H Q := .inl ⟨rfl, by
  have e : decide (V.bl a = V.bl b) = decide (a = b) := by
    rw [dec_bl, Bool.beq_eq_decide_eq]
  rw [e]
  exact h⟩
theorem o_eqS {a b : Str} (h : Q (.bl (decide (a = b))) H) : rEqG K (.str a) (.str b) H Q := .inl ⟨rfl, by
  have e : decide (V.str a = V.str b) = decide (a = b) := by
    rw [dec_str, Bool.beq_eq_decide_eq]
  rw [e]
  exact h⟩
theorem o_neI {a b : Int} (h : Q (.bl (!decide (a = b))) H) : rNeG K (.int a) (.int b) H Q := .inl ⟨rfl, by
  have e : decide (V.int a = V.int b) = decide (a = b) := by
    rw [dec_int, Bool.beq_eq_decide_eq]
  rw [e]
  exact h⟩
theorem o_neS {a b : Str} (h : Q (.bl (!decide (a = b))) H) : rNeG K (.str a) (.str b) H Q := .inl ⟨rfl, by
  have e : decide (V.str a = V.str b) = decide (a = b) := by
    rw [dec_str, Bool.beq_eq_decide_eq]
  rw [e]
  exact h⟩
theorem o_ixL {p : Addr} {z : Int} (hs : SqL K H p xs) (ha : atI xs z = some v) (h : Q v H) : rIx K (.ref p) (.int z) H Q := .inl ⟨p, xs, z, v, rfl, rfl, hs, ha, h⟩
theorem o_ixT {p : Addr} {z : Int} (hs : SqT K H p xs) (ha : atI xs z = some v) (h : Q v H) : rIx K (.ref p) (.int z) H Q := .inr (.inl ⟨p, xs, z, v, rfl, rfl, hs, ha, h⟩)
theorem o_neg {a : Int} {G : Int → V} (h : Q (G a) H) : rU G (.int a) H Q := ⟨a, rfl, h⟩
theorem o_lenL {p : Addr} (hs : SqL K H p xs) (h : Q (.int xs.length) H) : rLenG K [.ref p] H Q := ⟨.ref p, xs.length, rfl, .inl ⟨xs, hs, rfl⟩, h⟩
theorem o_lenT {p : Addr} (hs : SqT K H p xs) (h : Q (.int xs.length) H) : rLenG K [.ref p] H Q := ⟨.ref p, xs.length, rfl, .inr ⟨xs, hs, rfl⟩, h⟩
theorem o_int1 {a : Int} (h : Q (.int a) H) : rInt1 [.int a] H Q := .inl ⟨a, rfl, h⟩
theorem o_listL {p : Addr} (hs : SqL K H p xs) (h : Fresh H (.lst xs) Q) : rListOf K [.ref p] H Q := ⟨p, xs, rfl, .inl hs, fresh_of h⟩
theorem o_listT {p : Addr} (hs : SqT K H p xs) (h : Fresh H (.lst xs) Q) : rListOf K [.ref p] H Q := ⟨p, xs, rfl, .inr hs, fresh_of h⟩
theorem o_tupL {p : Addr} (hs : SqL K H p xs) (h : Fresh H (.tup xs) Q) : rTupOf K [.ref p] H Q := ⟨p, xs, rfl, .inl ⟨hs, fresh_of h⟩⟩
theorem o_tupT {p : Addr} (hs : SqT K H p xs) (h : Q (.ref p) H) : rTupOf K [.ref p] H Q := ⟨p, xs, rfl, .inr ⟨hs, h⟩⟩
theorem o_max2 {a b : Int} (h : Q (.int (if b > a then b else a)) H) : rMx2 [.int a, .int b] H Q := ⟨a, b, rfl, h⟩
theorem o_min2 {a b : Int} (h : Q (.int (if b < a then b else a)) H) : rMn2 [.int a, .int b] H Q := ⟨a, b, rfl, h⟩
theorem o_neB {a b : Bool} (h : Q (.bl (!decide (a = b))) H) : rNeG K (.bl a) (.bl b) H Q := .inl ⟨rfl, by
  have e : decide (V.bl a = V.bl b) = decide (a = b) := by
    rw [dec_bl, Bool.beq_eq_decide_eq]
  rw [e]
  exact h⟩
theorem o_neTT (h : Q (.bl false) H) : rNeG K (.bl true) (.bl true) H Q := o_neB h
theorem o_neFF (h : Q (.bl false) H) : rNeG K (.bl false) (.bl false) H Q := o_neB h
theorem o_neTF (h : Q (.bl true) H) : rNeG K (.bl true) (.bl false) H Q := o_neB h
theorem o_neFT (h : Q (.bl true) H) : rNeG K (.bl false) (.bl true) H Q := o_neB h
theorem ty_T {p : Addr} (hs : SqT K H p xs) : TyX K H (.ref p) (.type "tuple") := by
  rcases hs with (h | ⟨o, h⟩) | ⟨o, its, n, h, c, _⟩
  · exact .base (.tup h)
  · exact .fTuple h
  · exact .kTuple h c
theorem ty_L {p : Addr} (hs : SqL K H p xs) : TyX K H (.ref p) (.type "list") := by
  rcases hs with (h | ⟨o, h⟩) | ⟨o, its, n, h, c, _⟩
  · exact .base (.lst h)
  · exact .base (.frz h)
  · exact .kList h c
theorem o_isi {T S : String} {b : Bool} (ht : TyX K H x (.type T)) (hk : kitB T S = some b) (h : Q (.bl b) H) : rIsi K [x, .ty S] H Q := ⟨x, .ty S, .type T, .type S, b, rfl, .ty S, ht, kit_ty hk, h⟩
theorem o_isiT {T S : String} (ht : TyX K H x (.type T)) (hk : kitB T S = some true) (h : Q (.bl true) H) : rIsi K [x, .ty S] H Q := o_isi ht hk h
theorem o_isiF {T S : String} (ht : TyX K H x (.type T)) (hk : kitB T S = some false) (h : Q (.bl false) H) : rIsi K [x, .ty S] H Q := o_isi ht hk h
theorem o_app {l : Addr} (hl : H l = some (.lst xs)) (hz : xs.length < 100000) (h : Q .non (upd H l (.lst (xs ++ [v])))) : rAppend (.ref l) [v] H Q := ⟨l, xs, v, rfl, rfl, hl, Nat.lt_of_lt_of_le hz (by decide), h⟩
theorem o_inL {p : Addr} {neg : Bool} (hs : SqL K H p xs) (hx : flatV x = true) (ha : xs.all flatV = true) (h : Q (.bl (if neg then !inV x xs else inV x xs)) H) : rIn K neg x (.ref p) H Q := ⟨p, xs, rfl, .inl hs, hx, ha, h⟩
theorem o_inT {p : Addr} {neg : Bool} (hs : SqT K H p xs) (hx : flatV x = true) (ha : xs.all flatV = true) (h : Q (.bl (if neg then !inV x xs else inV x xs)) H) : rIn K neg x (.ref p) H Q := ⟨p, xs, rfl, .inr hs, hx, ha, h⟩
theorem o_slL {p : Addr} {lo hi : Option Int} (hs : SqL K H p xs) (h : Fresh H (.lst (cutV xs lo hi)) Q) : rSl K (.ref p) lo hi H Q := .inl ⟨p, xs, rfl, hs, fresh_of h⟩
theorem o_slT {p : Addr} {lo hi : Option Int} (hs : SqT K H p xs) (h : ∀ q H', Same H H' → SqT K H' q (cutV xs lo hi) → Q (.ref q) H') : rSl K (.ref p) lo hi H Q := .inr ⟨p, xs, rfl, hs, fun e => h p H (Same.refl H) (by
  unfold cutV
  rw [e.1, e.2, List.drop_zero, Nat.sub_zero, List.take_length]
  exact hs), fun _ q nq => h q _ (same_new nq) (SqT.of upd_same)⟩
/-! loops -/
theorem w_forL (h : te σ H (kForL K g s1 D σ)) : tFor (iSeq K te) g s1 D σ H := .inl h
theorem w_forT (h : te σ H (kForT K g s1 D σ)) : tFor (iSeq K te) g s1 D σ H := .inr h
theorem w_forR1 (h : ts σ H (kForR1 g s1 D σ)) : tFor (iRng1 ts) g s1 D σ H := h
theorem w_forR2 (h : ts σ H (kForR2 g s1 D σ)) : tFor (iRng2 ts) g s1 D σ H := h
theorem k_forL {a : Addr} (Pv : Nat → L2.St → Hp → Prop) (hq : SqL K H a xs) (h0 : Pv 0 σ H) (hl : ∀ i σ H, i ≤ xs.length → Pv i σ H → SqL K H a xs)
    (hs : ∀ i x σ H, xs[i]? = some x → Pv i σ H → g x σ H (s1 { D with nx := Pv (i + 1), ct := Pv (i + 1), bk := D.nx })) (hd : ∀ σ H, Pv xs.length σ H → D.nx σ H) : kForL K g s1 D σ (.ref a) H :=
  ⟨a, rfl, ⟨xs, hq⟩, for_list Pv h0 hl hs hd⟩
theorem k_forT {a : Addr} (Pv : Nat → L2.St → Hp → Prop) (hq : SqT K H a xs) (h0 : Pv 0 σ H) (hl : ∀ i σ H, i ≤ xs.length → Pv i σ H → SqT K H a xs)
    (hs : ∀ i x σ H, xs[i]? = some x → Pv i σ H → g x σ H (s1 { D with nx := Pv (i + 1), ct := Pv (i + 1), bk := D.nx })) (hd : ∀ σ H, Pv xs.length σ H → D.nx σ H) : kForT K g s1 D σ (.ref a) H :=
  ⟨a, rfl, ⟨xs, hq⟩, for_tup Pv h0 hl hs hd⟩
theorem k_forR1 {j : Int} (Pv : Nat → L2.St → Hp → Prop) (hj : -1000000 ≤ j ∧ j ≤ 1000000) (h0 : Pv 0 σ H)
    (hs : ∀ (i : Nat) σ H, (i : Int) < j → Pv i σ H → g (.int (i : Int)) σ H (s1 { D with nx := Pv (i + 1), ct := Pv (i + 1), bk := D.nx })) (hd : ∀ σ H, Pv j.toNat σ H → D.nx σ H) : kForR1 g s1 D σ [.int j] H :=
  ⟨j, rfl, by omega, by omega, for_range (lo := 0) (n := j.toNat) Pv h0 (fun i σ H hi p => by
    rw [Int.zero_add]
    exact hs i σ H (by omega) p) hd⟩
theorem k_forR2 {lo j : Int} (Pv : Nat → L2.St → Hp → Prop) (hj : -1000000 ≤ lo ∧ lo ≤ 1000000 ∧ -1000000 ≤ j ∧ j ≤ 1000000) (h0 : Pv 0 σ H)
    (hs : ∀ (i : Nat) σ H, lo + (i : Int) < j → Pv i σ H → g (.int (lo + (i : Int))) σ H (s1 { D with nx := Pv (i + 1), ct := Pv (i + 1), bk := D.nx })) (hd : ∀ σ H, Pv (j - lo).toNat σ H → D.nx σ H) : kForR2 g s1 D σ [.int lo, .int j] H :=
  ⟨lo, j, rfl, ⟨by omega, by omega, by omega, by omega⟩, for_range (lo := lo) (n := (j - lo).toNat) Pv h0 (fun i σ H hi p => hs i σ H (by omega) p) hd⟩
theorem w_lcL {ws : List Nat} (h : ta σ H (kLcL K g t te ws σ Q)) : tLc (iSeq K ta) g t te ws σ H Q := .inl h
theorem w_lcT {ws : List Nat} (h : ta σ H (kLcT K g t te ws σ Q)) : tLc (iSeq K ta) g t te ws σ H Q := .inr h
theorem w_lcR1 {ws : List Nat} (h : ts σ H (kLcR1 g t te ws σ Q)) : tLc (iRng1 ts) g t te ws σ H Q := h
theorem w_lcR2 {ws : List Nat} (h : ts σ H (kLcR2 g t te ws σ Q)) : tLc (iRng2 ts) g t te ws σ H Q := h
/-- a comprehension's turns: Pv by the turn, the list's items so far and the heap -/
def kTurn (t : TT) (te : TE) (D : Addr) (ws : List Nat) (σ : L2.St) (Nx : Hp → Prop) : L2.St → Hp → Prop := fun σ2 H2 => wipe σ2 ws = wipe σ ws ∧ t σ2 H2 (kTst te D σ2 Nx)
theorem k_turn {dd : Addr} {ws : List Nat} {σ0 : L2.St} {Nx : Hp → Prop} (e : wipe σ ws = wipe σ0 ws) (h : t σ H (kTst te dd σ Nx)) : kTurn t te dd ws σ0 Nx σ H := ⟨e, h⟩
theorem k_yes {dd : Addr} {Nx : Hp → Prop} (h : te σ H (kElt dd Nx)) : tYes σ H (kTst te dd σ Nx) := h
theorem k_tst {dd : Addr} {Nx : Hp → Prop} {b : Bool} (h1 : b = true → te σ H (kElt dd Nx)) (h2 : b = false → Nx H) : kTst te dd σ Nx b H := by
  cases b with
  | true => exact h1 rfl
  | false => exact h2 rfl
theorem k_elt {dd : Addr} {Nx : Hp → Prop} {acc : List V} (hd : H dd = some (.lst acc)) (hz : acc.length < 100000) (h : Nx (upd H dd (.lst (acc ++ [v])))) : kElt dd Nx v H := ⟨acc, hd, Nat.lt_of_lt_of_le hz (by decide), h⟩
theorem k_lcL {a : Addr} {ws : List Nat} (hq : SqL K H a xs) (h : ∀ dd, H dd = none → ∃ Pv : Nat → Hp → Prop, Pv 0 (upd H dd (.lst [])) ∧ (∀ i H, i ≤ xs.length → Pv i H → SqL K H a xs) ∧
    (∀ i x H, xs[i]? = some x → Pv i H → g x (wipe σ ws) H (kTurn t te dd ws σ (Pv (i + 1)))) ∧ ∀ H, Pv xs.length H → Q (.ref dd) H) : kLcL K g t te ws σ Q (.ref a) H :=
  ⟨a, rfl, ⟨xs, hq⟩, fun dd hd => by
    obtain ⟨Pv, h0, hl, hs, he⟩ := h dd hd
    exact lc_list Pv h0 hl hs he⟩
theorem k_lcT {a : Addr} {ws : List Nat} (hq : SqT K H a xs) (h : ∀ dd, H dd = none → ∃ Pv : Nat → Hp → Prop, Pv 0 (upd H dd (.lst [])) ∧ (∀ i H, i ≤ xs.length → Pv i H → SqT K H a xs) ∧
    (∀ i x H, xs[i]? = some x → Pv i H → g x (wipe σ ws) H (kTurn t te dd ws σ (Pv (i + 1)))) ∧ ∀ H, Pv xs.length H → Q (.ref dd) H) : kLcT K g t te ws σ Q (.ref a) H :=
  ⟨a, rfl, ⟨xs, hq⟩, fun dd hd => by
    obtain ⟨Pv, h0, hl, hs, he⟩ := h dd hd
    exact lc_tup Pv h0 hl hs he⟩
theorem k_lcR1 {j : Int} {ws : List Nat} (hj : -1000000 ≤ j ∧ j ≤ 1000000) (h : ∀ dd, H dd = none → ∃ Pv : Nat → Hp → Prop, Pv 0 (upd H dd (.lst [])) ∧
    (∀ (i : Nat) H, (i : Int) < j → Pv i H → g (.int (i : Int)) (wipe σ ws) H (kTurn t te dd ws σ (Pv (i + 1)))) ∧ ∀ H, Pv j.toNat H → Q (.ref dd) H) : kLcR1 g t te ws σ Q [.int j] H :=
  ⟨j, rfl, by omega, by omega, fun dd hd => by
    obtain ⟨Pv, h0, hs, he⟩ := h dd hd
    exact lc_range (lo := 0) (n := j.toNat) Pv h0 (fun i H hi p => by
      rw [Int.zero_add]
      exact hs i H (by omega) p) he⟩
theorem k_lcR2 {lo j : Int} {ws : List Nat} (hj : -1000000 ≤ lo ∧ lo ≤ 1000000 ∧ -1000000 ≤ j ∧ j ≤ 1000000) (h : ∀ dd, H dd = none → ∃ Pv : Nat → Hp → Prop, Pv 0 (upd H dd (.lst [])) ∧
    (∀ (i : Nat) H, lo + (i : Int) < j → Pv i H → g (.int (lo + (i : Int))) (wipe σ ws) H (kTurn t te dd ws σ (Pv (i + 1)))) ∧ ∀ H, Pv (j - lo).toNat H → Q (.ref dd) H) : kLcR2 g t te ws σ Q [.int lo, .int j] H :=
  ⟨lo, j, rfl, ⟨by omega, by omega, by omega, by omega⟩, fun dd hd => by
    obtain ⟨Pv, h0, hs, he⟩ := h dd hd
    exact lc_range (lo := lo) (n := (j - lo).toNat) Pv h0 (fun i H hi p => hs i H (by omega) p) he⟩
def kWhile (s1 : TS) (D : Ends) (W : Nat → L2.St → Hp → Prop) (m : Nat) (σ : L2.St) : Bool → Hp → Prop := fun b H1 => if b = true then ∃ N : L2.St → Hp → Prop, (∀ σ' H', N σ' H' → ∃ m', m' < m ∧ W m' σ' H') ∧ s1 { D with nx := N, ct := N, bk := D.nx } σ H1 else D.nx σ H1
theorem w_whileW (W : Nat → L2.St → Hp → Prop) {m0 : Nat} (h0 : W m0 σ H) (hs : ∀ m σ H, W m σ H → t σ H (kWhile s1 D W m σ)) : tWhile t s1 D σ H := ⟨W, ⟨m0, h0⟩, hs⟩
theorem k_while {W : Nat → L2.St → Hp → Prop} {m : Nat} {b : Bool} (h1 : b = true → s1 { D with nx := fun σ' H' => ∃ m', m' < m ∧ W m' σ' H', ct := fun σ' H' => ∃ m', m' < m ∧ W m' σ' H', bk := D.nx } σ H) (h2 : b = false → D.nx σ H) : kWhile s1 D W m σ b H := by
  cases b with
  | true => exact ⟨_, fun σ' H' x => x, h1 rfl⟩
  | false => exact h2 rfl
theorem o_eqNS {z : Str} (h : Q (.bl false) H) : rEqG K .non (.str z) H Q := .inl ⟨rfl, h⟩
/-- a cut behind a statement -/
theorem w_seqJ (P : L2.St → Hp → Prop) (h2 : ∀ σ' H', P σ' H' → s2 D σ' H') (h1 : ∀ N : L2.St → Hp → Prop, (∀ σ' H', P σ' H' → N σ' H') → s1 { D with nx := N } σ H) : tSeq s1 s2 D σ H := h1 (s2 D) h2
theorem w_cut (P : L2.St → Hp → Prop) (h2 : ∀ σ' H', P σ' H' → D.nx σ' H') (h1 : ∀ N : L2.St → Hp → Prop, (∀ σ' H', P σ' H' → N σ' H') → s1 { D with nx := N } σ H) : s1 D σ H := h1 D.nx h2
/-- while, by a word with a measure -/
theorem w_while (W : Nat → L2.St → Hp → Prop) {m0 : Nat} (h0 : W m0 σ H) (hs : ∀ m σ H, W m σ H → t σ H fun b H1 => if b = true then s1 { D with nx := fun σ' H' => ∃ m', m' < m ∧ W m' σ' H', ct := fun σ' H' => ∃ m', m' < m ∧ W m' σ' H', bk := D.nx } σ H1 else D.nx σ H1)
    (mono : ∀ σ H (Q Q' : Bool → Hp → Prop), (∀ b H1, Q b H1 → Q' b H1) → t σ H Q → t σ H Q') : tWhile t s1 D σ H :=
  ⟨W, ⟨m0, h0⟩, fun m σ H p => mono σ H _ _ (fun b H1 q => by
    cases b with
    | true => exact ⟨_, fun σ' H' x => x, q⟩
    | false => exact q) (hs m σ H p)⟩
end
end Tw
namespace Tw
open PySem PySem.Spec PyProof.Rows L2
section
variable {prog : Program} {w : World} {A : Around} {E : Value → Shared → Prop} {s : Shared} {l : Addr} {its : List Value} {ns : List Int} {Q : Value → Shared → Prop}
theorem old_tup {h' : Heap} {o0 : Obj} (hk : ∀ b o, b ∉ [s.heap.objs.size] → (s.heap.push o0).get? b = some o → h'.get? b = some o) : ∀ b o, s.heap.get? b = some o → h'.get? b = some o := fun b o e =>
  hk b o (fun hb => absurd (Heap.lt_size e) ((List.mem_singleton.mp hb) ▸ Nat.lt_irrefl _)) (Heap.get?_push_of_some _ e)
theorem iter_tupX {vs : Array Value} {Q : Value → Shared → Prop} (hl : s.heap.IsTuple l vs)
    (h : ∀ s₂ : Shared, s₂ = { s with heap := s.heap.push { cls := .type "tuple_iterator", data := .fields #[.ref l, .int 0 0] } } →
      (s₂.heap.IsTupleIter s.heap.objs.size l 0 ∧ s₂.heap.IsTuple l vs) → (∀ b ∈ [s.heap.objs.size, l], b < s₂.heap.objs.size) → l ≠ s.heap.objs.size → Q (.ref s.heap.objs.size) s₂) :
    wpAny (model prog w) A (pyIter (.ref l)) Q E s := by
  have hlt : l < s.heap.objs.size := by obtain ⟨_, e, _⟩ := hl; exact Heap.lt_size e
  refine wpAny_pyIter_tuple hl (h _ rfl ⟨⟨_, Heap.get?_push_size _ rfl, rfl, rfl⟩, hl.push _⟩ (fun b hb => ?_) (Nat.ne_of_lt hlt))
  show b < (s.heap.push _).objs.size
  rw [Heap.size_push]
  rcases List.mem_cons.mp hb with rfl | hb
  · exact Nat.lt_succ_self _
  · rcases List.mem_cons.mp hb with rfl | hb
    · exact Nat.lt_succ_of_lt hlt
    · cases hb
theorem sum_tupRaw (hh : A.handled = none) (hl : s.heap.IsTuple l its.toArray) (hi : IntsAre its ns)
    (h : ∀ h' tk t', (∀ b o, s.heap.get? b = some o → h'.get? b = some o) → Q (.int ns.sum t') { s with heap := h', toks := tk }) : wpAny (model prog w) A (call (.builtin "sum") [.ref l]) Q E s := by
  obtain ⟨xs, e⟩ := hi.allInts.items
  have hn : numsOf (intItems xs).toList = ns := by rw [← e]; exact hi.numsOf
  rw [nums_intItems] at hn
  rw [e] at hl
  refine call_sum_walkG (iter_tupX hl fun s₂ e2 st hfp hlI => ?_)
  subst e2
  refine ⟨_, _, _, _, _, _, numAt xs, rfl, Walks.tuple (A := A.in1) hh _ l hlI (intItems xs), st, hfp, (fun _ _ => intItems_at), fun h' tk t' hk => ?_⟩
  have := h h' tk t' (old_tup hk)
  rw [show (intItems xs).size = xs.size by simp [intItems], preSum_eq, List.take_of_length_le (by simp), hn]
  exact this
theorem max_tupRaw (hh : A.handled = none) (hl : s.heap.IsTuple l its.toArray) (hi : IntsAre its ns) (hne : 0 < ns.length)
    (h : ∀ h' tk M t', (∀ b o, s.heap.get? b = some o → h'.get? b = some o) → M ∈ ns → (∀ a, a ∈ ns → a ≤ M) → Q (.int M t') { s with heap := h', toks := tk }) : wpAny (model prog w) A (call (.builtin "max") [.ref l]) Q E s := by
  obtain ⟨xs, e⟩ := hi.allInts.items
  have hn : numsOf (intItems xs).toList = ns := by rw [← e]; exact hi.numsOf
  rw [nums_intItems] at hn
  subst hn
  rw [e] at hl
  have hsz : 0 < xs.size := by simpa using hne
  refine call_max_walk (iter_tupX hl fun s₂ e2 st hfp hlI => ?_)
  subst e2
  refine ⟨_, _, _, _, _, _, _, rfl, Walks.tuple (A := A.in1) hh _ l hlI (intItems xs), st, hfp, by simpa [intItems] using hsz, CmpOf.ints_gt (numAt xs) (fun _ _ => intItems_at), fun v h' tk hP hk => ?_⟩
  have hv : (intItems xs)[argBest (fun i j => decide (numAt xs i > numAt xs j)) (xs.size - 1)]? = some v := by simpa [intItems] using hP
  obtain ⟨t, rfl⟩ := intItems_at hv
  obtain ⟨h1, h2⟩ := argBest_gt (numAt xs) (xs.size - 1)
  refine h h' tk _ t (old_tup hk) ?_ fun a ha => ?_
  · rw [numAt_eq]; exact PySem.getD_mem (by rw [List.length_map, Array.length_toList]; omega)
  · obtain ⟨j, hj, rfl⟩ := mem_getD ha
    rw [List.length_map, Array.length_toList] at hj
    rw [← numAt_eq]; exact h2 j (by omega)
theorem min_tupRaw (hh : A.handled = none) (hl : s.heap.IsTuple l its.toArray) (hi : IntsAre its ns) (hne : 0 < ns.length)
    (h : ∀ h' tk M t', (∀ b o, s.heap.get? b = some o → h'.get? b = some o) → M ∈ ns → (∀ a, a ∈ ns → M ≤ a) → Q (.int M t') { s with heap := h', toks := tk }) : wpAny (model prog w) A (call (.builtin "min") [.ref l]) Q E s := by
  obtain ⟨xs, e⟩ := hi.allInts.items
  have hn : numsOf (intItems xs).toList = ns := by rw [← e]; exact hi.numsOf
  rw [nums_intItems] at hn
  subst hn
  rw [e] at hl
  have hsz : 0 < xs.size := by simpa using hne
  refine call_min_walk (iter_tupX hl fun s₂ e2 st hfp hlI => ?_)
  subst e2
  refine ⟨_, _, _, _, _, _, _, rfl, Walks.tuple (A := A.in1) hh _ l hlI (intItems xs), st, hfp, by simpa [intItems] using hsz, CmpOf.ints_lt (numAt xs) (fun _ _ => intItems_at), fun v h' tk hP hk => ?_⟩
  have hv : (intItems xs)[argBest (fun i j => decide (numAt xs i < numAt xs j)) (xs.size - 1)]? = some v := by simpa [intItems] using hP
  obtain ⟨t, rfl⟩ := intItems_at hv
  obtain ⟨h1, h2⟩ := argBest_lt (numAt xs) (xs.size - 1)
  refine h h' tk _ t (old_tup hk) ?_ fun a ha => ?_
  · rw [numAt_eq]; exact PySem.getD_mem (by rw [List.length_map, Array.length_toList]; omega)
  · obtain ⟨j, hj, rfl⟩ := mem_getD ha
    rw [List.length_map, Array.length_toList] at hj
    rw [← numAt_eq]; exact h2 j (by omega)
end
section
variable {X : Cx} {K : PySem.W.Frag}
theorem orC {id : String} {r1 r2 : List V → Hp → VK → Prop} (h1 : CallR X (.builtin id) r1) (h2 : CallR X (.builtin id) r2) : CallR X (.builtin id) (fun vs H Q => r1 vs H Q ∨ r2 vs H Q) :=
  fun pins s σ H vs us Q I r h => h.elim (h1 pins s σ H vs us Q I r) (h2 pins s σ H vs us Q I r)
def rSumT (K : PySem.W.Frag) : List V → Hp → VK → Prop := fun vs H Q => ∃ (a : Addr) (ns : List Int), vs = [V.ref a] ∧ SqT K H a (ns.map V.int) ∧ Q (.int ns.sum) H
def rMaxT (K : PySem.W.Frag) : List V → Hp → VK → Prop := fun vs H Q => ∃ (a : Addr) (ns : List Int), vs = [V.ref a] ∧ SqT K H a (ns.map V.int) ∧ 0 < ns.length ∧ ∀ m, m ∈ ns → (∀ y, y ∈ ns → y ≤ m) → Q (.int m) H
def rMinT (K : PySem.W.Frag) : List V → Hp → VK → Prop := fun vs H Q => ∃ (a : Addr) (ns : List Int), vs = [V.ref a] ∧ SqT K H a (ns.map V.int) ∧ 0 < ns.length ∧ ∀ m, m ∈ ns → (∀ y, y ∈ ns → m ≤ y) → Q (.int m) H
theorem cr_sumT (hc : X.calm = true) : CallR X (.builtin "sum") (rSumT X.K) := by
  intro pins s σ H vs us Q I r h
  obtain ⟨a, ns, rfl, hs, q⟩ := h
  obtain ⟨its, rv, hl, _⟩ := I.tuple hs
  rw [Vals.ref1 r]
  exact sum_tupRaw (I.ok.hd hc) hl rv.ints fun h' tk t' hk => ⟨.int _, H, I.kept hk, ⟨_, rfl⟩, q⟩
theorem cr_maxT (hc : X.calm = true) : CallR X (.builtin "max") (rMaxT X.K) := by
  intro pins s σ H vs us Q I r h
  obtain ⟨a, ns, rfl, hs, hne, q⟩ := h
  obtain ⟨its, rv, hl, _⟩ := I.tuple hs
  rw [Vals.ref1 r]
  exact max_tupRaw (I.ok.hd hc) hl rv.ints hne fun h' tk m t' hk h1 h2 => ⟨.int _, H, I.kept hk, ⟨_, rfl⟩, q m h1 h2⟩
theorem cr_minT (hc : X.calm = true) : CallR X (.builtin "min") (rMinT X.K) := by
  intro pins s σ H vs us Q I r h
  obtain ⟨a, ns, rfl, hs, hne, q⟩ := h
  obtain ⟨its, rv, hl, _⟩ := I.tuple hs
  rw [Vals.ref1 r]
  exact min_tupRaw (I.ok.hd hc) hl rv.ints hne fun h' tk m t' hk h1 h2 => ⟨.int _, H, I.kept hk, ⟨_, rfl⟩, q m h1 h2⟩
def rSumG (K : PySem.W.Frag) : List V → Hp → VK → Prop := fun vs H Q => rSum K vs H Q ∨ rSumT K vs H Q
def rMaxG (K : PySem.W.Frag) : List V → Hp → VK → Prop := fun vs H Q => rMax K vs H Q ∨ rMaxT K vs H Q
def rMinG (K : PySem.W.Frag) : List V → Hp → VK → Prop := fun vs H Q => rMin K vs H Q ∨ rMinT K vs H Q
theorem callSumG (e : X.K = K) (hc : X.calm = true) : CallR X (.builtin "sum") (rSumG K) := e ▸ orC (cr_sum hc) (cr_sumT hc)
theorem callMaxG (e : X.K = K) (hc : X.calm = true) : CallR X (.builtin "max") (rMaxG K) := e ▸ orC (cr_max hc) (cr_maxT hc)
theorem callMinG (e : X.K = K) (hc : X.calm = true) : CallR X (.builtin "min") (rMinG K) := e ▸ orC (cr_min hc) (cr_minT hc)
end
section
variable {K : PySem.W.Frag} {H : Hp} {Q : VK} {p : Addr} {ns : List Int}
theorem o_sumL (hs : SqL K H p (ns.map V.int)) (h : Q (.int ns.sum) H) : rSumG K [.ref p] H Q := .inl ⟨p, ns, rfl, hs, h⟩
theorem o_sumT (hs : SqT K H p (ns.map V.int)) (h : Q (.int ns.sum) H) : rSumG K [.ref p] H Q := .inr ⟨p, ns, rfl, hs, h⟩
theorem o_maxL (hs : SqL K H p (ns.map V.int)) (hn : 0 < ns.length) (h : ∀ m, m ∈ ns → (∀ y, y ∈ ns → y ≤ m) → Q (.int m) H) : rMaxG K [.ref p] H Q := .inl ⟨p, ns, rfl, hs, hn, h⟩
theorem o_maxT (hs : SqT K H p (ns.map V.int)) (hn : 0 < ns.length) (h : ∀ m, m ∈ ns → (∀ y, y ∈ ns → y ≤ m) → Q (.int m) H) : rMaxG K [.ref p] H Q := .inr ⟨p, ns, rfl, hs, hn, h⟩
theorem o_minL (hs : SqL K H p (ns.map V.int)) (hn : 0 < ns.length) (h : ∀ m, m ∈ ns → (∀ y, y ∈ ns → m ≤ y) → Q (.int m) H) : rMinG K [.ref p] H Q := .inl ⟨p, ns, rfl, hs, hn, h⟩
theorem o_minT (hs : SqT K H p (ns.map V.int)) (hn : 0 < ns.length) (h : ∀ m, m ∈ ns → (∀ y, y ∈ ns → m ≤ y) → Q (.int m) H) : rMinG K [.ref p] H Q := .inr ⟨p, ns, rfl, hs, hn, h⟩
end
end Tw

namespace Tw
open PySem PySem.Spec PyProof.Rows L2
/-! ### the law's own draws -/
/-- a pool stands at p -/
def PoolAt (H : Hp) (p l : Addr) : Prop := ∃ (ns : List Int) (a b c d : Int), H p = some (.lst [.ref l, .int a, .int b, .int c, .int d]) ∧ H l = some (.lst (ns.map V.int)) ∧ ns.length ≤ 63 ∧ 0 ≤ a ∧ 0 ≤ b
theorem PoolAt.same {H H' : Hp} {p l : Addr} (h : PoolAt H p l) (e : Same H H') : PoolAt H' p l := by
  obtain ⟨ns, a, b, c, d, h1, h2, h3⟩ := h
  exact ⟨ns, a, b, c, d, e _ _ h1, e _ _ h2, h3⟩
theorem PoolAt.upd {H : Hp} {p l f : Addr} {o : HO} (h : PoolAt H p l) (hp : f ≠ p) (hl : f ≠ l) : PoolAt (L2.upd H f o) p l := by
  obtain ⟨ns, a, b, c, d, h1, h2, h3⟩ := h
  exact ⟨ns, a, b, c, d, by rw [upd_ne hp.symm]; exact h1, by rw [upd_ne hl.symm]; exact h2, h3⟩
theorem PoolAt.np {H : Hp} {p l f : Addr} (h : PoolAt H p l) (hf : H f = none) : f ≠ p := by
  obtain ⟨ns, a, b, c, d, h1, h2, h3⟩ := h
  exact (ne_of_none h1 hf).symm
theorem PoolAt.nl {H : Hp} {p l f : Addr} (h : PoolAt H p l) (hf : H f = none) : f ≠ l := by
  obtain ⟨ns, a, b, c, d, h1, h2, h3⟩ := h
  exact (ne_of_none h2 hf).symm
theorem But.mut {H H' : Hp} {p f : Addr} {o : HO} (e : But p H H') (h : H f = none) : But p H (L2.upd H' f o) := fun a u n ha => by
  rw [upd_ne (ne_of_none ha h)]
  exact e a u n ha
/-- what is not at p is new behind both -/
theorem But.free {H H' : Hp} {p f : Addr} (e : But p H H') (hf : H' f = none) (n : f ≠ p) : H f = none := by
  cases q : H f with
  | none => rfl
  | some o =>
    rw [e f o n q] at hf
    cases hf
def sp__law_pool (K : PySem.W.Frag) : Sp := fun vs H Q _ => ∃ (a : Addr) (ns : List Int), vs = [.ref a] ∧ SqL K H a (ns.map V.int) ∧ ns.length ≤ 63 ∧ ∀ p l H', Same H H' → H p = none → H l = none → PoolAt H' p l → Q (.ref p) H'
def sp__law_spread (_ : PySem.W.Frag) : Sp := fun vs H Q _ => ∃ (c : Int), vs = [.int c] ∧ ∀ v, 0 < v → Q (.int v) H
def sp__law_draw (_ : PySem.W.Frag) : Sp := fun vs H Q _ => ∃ (p l : Addr) (m : Int), vs = [.ref p, .int m] ∧ 0 < m ∧ m < 2 ^ 64 ∧ PoolAt H p l ∧ ∀ v H', 0 ≤ v → v < m → But p H H' → PoolAt H' p l → Q (.int v) H'
theorem cut_mem {xs : List V} {lo hi : Option Int} {x : V} {i : Nat} (h : (cutV xs lo hi)[i]? = some x) : x ∈ xs := by
  have h1 := List.mem_of_getElem? h
  unfold cutV at h1
  exact List.mem_of_mem_drop (List.mem_of_mem_take h1)
theorem int_of_mem {ns : List Int} {x : V} (h : x ∈ ns.map V.int) : ∃ n, x = .int n := by
  obtain ⟨n, _, e⟩ := List.mem_map.mp h
  exact ⟨n, e.symm⟩
theorem But.seqT {K : PySem.W.Frag} {p l : Addr} {H H' : Hp} (e : But p H H') (hp : PoolAt H p l) {a : Addr} {xs : List V} (h : SqT K H a xs) : SqT K H' a xs := by
  obtain ⟨ns, x, b, c, d, h1, _⟩ := hp
  rcases h with (h | ⟨o, h⟩) | h
  · exact .inl (.inl (e _ _ (ne_of h h1 (by intro z; cases z)) h))
  · exact .inl (.inr ⟨o, e _ _ (ne_of h h1 (by intro z; cases z)) h⟩)
  · exact .inr h
/-! ### plain data, compared kind by kind -/
def Shal : Nat → PyData → Prop
  | 0, .tuple _ => False
  | 0, .list _ => False
  | n + 1, .tuple es => es.length ≤ 1000 ∧ ∀ e ∈ es, Shal n e
  | n + 1, .list es => es.length ≤ 1000 ∧ ∀ e ∈ es, Shal n e
  | _, .dict _ => False
  | _, _ => True
def sp__law_same (K : PySem.W.Frag) : Nat → Sp
  | 0 => fun _ _ _ _ => False
  | n + 1 => fun vs H Q _ => ∃ (x y : V) (d e : PyData), vs = [x, y] ∧ Dp K H x d ∧ Dp K H y e ∧ Shal n e ∧ ∀ (b : Bool) H', Same H H' → (b = true ↔ d = e) → Q (.bl b) H'
abbrev sp__law_same_5 (K : PySem.W.Frag) : Sp := sp__law_same K 5
theorem Same.mut {H H' : Hp} {p : Addr} {o : HO} (e : Same H H') (h : H p = none) : Same H (upd H' p o) := fun a u ha => by
  rw [upd_ne (ne_of_none ha h)]
  exact e a u ha
theorem all_at {α : Type} : ∀ {ds es : List α}, ds.length = es.length → (∀ j, j < es.length → ds[j]? = es[j]?) → ds = es
  | [], [], _, _ => rfl
  | d :: ds, e :: es, hl, h => by
    have h0 : some d = some e := h 0 (Nat.zero_lt_succ _)
    have := all_at (ds := ds) (es := es) (Nat.succ.inj hl) fun j hj => h (j + 1) (Nat.succ_lt_succ hj)
    rw [Option.some.inj h0, this]
mutual
theorem Dp.same {K : PySem.W.Frag} {H H' : Hp} (e : Same H H') : ∀ {d : PyData} {v : V}, Dp K H v d → Dp K H' v d
  | _, _, .non => .non
  | _, _, .bl b => .bl b
  | _, _, .int i => .int i
  | _, _, .str x => .str x
  | _, _, .lst h a => .lst (e.seq h) (DpAll.same e a)
  | _, _, .tup h a => .tup (Same.seqT e h) (DpAll.same e a)
theorem DpAll.same {K : PySem.W.Frag} {H H' : Hp} (e : Same H H') : ∀ {ds : List PyData} {vs : List V}, DpAll K H vs ds → DpAll K H' vs ds
  | _, _, .nil => .nil
  | _, _, .cons h a => .cons (Dp.same e h) (DpAll.same e a)
end
theorem DpAll.len {K : PySem.W.Frag} {H : Hp} : ∀ {ds : List PyData} {vs : List V}, DpAll K H vs ds → vs.length = ds.length
  | _, _, .nil => rfl
  | _, _, .cons _ a => congrArg Nat.succ (DpAll.len a)
theorem DpAll.at {K : PySem.W.Frag} {H : Hp} : ∀ {ds : List PyData} {vs : List V}, DpAll K H vs ds → ∀ {i : Nat}, i < ds.length → ∃ v d, vs[i]? = some v ∧ ds[i]? = some d ∧ Dp K H v d
  | _, _, .cons h a, 0, _ => ⟨_, _, rfl, rfl, h⟩
  | _, _, .cons h a, i + 1, hi => DpAll.at a (i := i) (Nat.lt_of_succ_lt_succ hi)
end Tw
namespace Tw
open PySem PySem.Spec PyProof.Rows L2
theorem paired_at {α β : Type} {F : α → β → Prop} : ∀ {xs : List α} {ys : List β}, Paired F xs ys → ∀ {i : Nat} {x : α}, xs[i]? = some x → ∃ y, ys[i]? = some y ∧ F x y
  | _, _, .cons h t, 0, x, e => ⟨_, rfl, by rw [← Option.some.inj e]; exact h⟩
  | _, _, .cons h t, i + 1, x, e => paired_at t (i := i) e
theorem paired_map {α β : Type} {F G : α → β → Prop} (f : ∀ a b, F a b → G a b) : ∀ {xs : List α} {ys : List β}, Paired F xs ys → Paired G xs ys
  | _, _, .nil => .nil
  | _, _, .cons h t => .cons (f _ _ h) (paired_map f t)
theorem paired_app {α β : Type} {F : α → β → Prop} {x : α} {y : β} (h : F x y) : ∀ {xs : List α} {ys : List β}, Paired F xs ys → Paired F (xs ++ [x]) (ys ++ [y])
  | _, _, .nil => .cons h .nil
  | _, _, .cons g t => .cons g (paired_app h t)
theorem paired_len {α β : Type} {F : α → β → Prop} {xs : List α} {ys : List β} (h : Paired F xs ys) : xs.length = ys.length := Paired.length h
theorem drop_cons {α : Type} {l : List α} {i : Nat} {x : α} (h : l[i]? = some x) : l.drop i = x :: l.drop (i + 1) := by
  obtain ⟨h1, h2⟩ := List.getElem?_eq_some_iff.mp h
  rw [List.drop_eq_getElem_cons h1, h2]
theorem take_snoc {α : Type} {l : List α} {i : Nat} {x : α} (h : l[i]? = some x) : l.take (i + 1) = l.take i ++ [x] := by
  rw [List.take_add_one, h]
  rfl
theorem at3 {v x y z : Int} (h0 : 0 ≤ v) (h1 : v < 3) : ∃ w, atI [V.int x, V.int y, V.int z] v = some (.int w) ∧ (w = x ∨ w = y ∨ w = z) := by
  rcases (by omega : v = 0 ∨ v = 1 ∨ v = 2) with e | e | e
  · exact ⟨x, at_lit 0 e rfl, .inl rfl⟩
  · exact ⟨y, at_lit 1 e rfl, .inr (.inl rfl)⟩
  · exact ⟨z, at_lit 2 e rfl, .inr (.inr rfl)⟩
theorem at2 {v : Int} {x y : V} (h0 : 0 ≤ v) (h1 : v < 2) : ∃ w, atI [x, y] v = some w ∧ (w = x ∨ w = y) := by
  rcases (by omega : v = 0 ∨ v = 1) with e | e
  · exact ⟨x, at_lit 0 e rfl, .inl rfl⟩
  · exact ⟨y, at_lit 1 e rfl, .inr rfl⟩
theorem inV_ints {z : Int} {ns : List Int} : inV (.int z) (ns.map V.int) = decide (z ∈ ns) := by
  unfold inV
  induction ns with
  | nil => rfl
  | cons n ns ih =>
    rw [List.map_cons, List.any_cons, ih]
    show ((n == z) || decide (z ∈ ns)) = decide (z ∈ n :: ns)
    rw [Bool.eq_iff_iff]
    simp only [Bool.or_eq_true, beq_iff_eq, decide_eq_true_eq, List.mem_cons]
    constructor
    · rintro (h | h)
      · exact .inl h.symm
      · exact .inr h
    · rintro (h | h)
      · exact .inl h.symm
      · exact .inr h
theorem flat_ints (ns : List Int) : (ns.map V.int).all flatV = true := by
  induction ns with
  | nil => rfl
  | cons n ns ih =>
    rw [List.map_cons, List.all_cons, ih]
    rfl
section
variable {K : PySem.W.Frag} {H : Hp} {Q : VK}
theorem o_notInI {z : Int} {ns : List Int} {p : Addr} (hs : SqL K H p (ns.map V.int)) (h : Q (.bl (!decide (z ∈ ns))) H) : rIn K true (.int z) (.ref p) H Q := o_inL hs rfl (flat_ints ns) (by
  rw [if_pos rfl, inV_ints]
  exact h)
end
/-! ### spells: pairs of ints in a tuple -/
def PrT (K : PySem.W.Frag) (H : Hp) (v : V) (s : Int × Int) : Prop := ∃ r, v = .ref r ∧ SqT K H r [.int s.1, .int s.2]
def SpsT (K : PySem.W.Frag) (H : Hp) (a : Addr) (sp : List (Int × Int)) : Prop := ∃ vs, SqT K H a vs ∧ Paired (PrT K H) vs sp
theorem PrT.same {K : PySem.W.Frag} {H H' : Hp} (e : Same H H') {v : V} {s : Int × Int} (h : PrT K H v s) : PrT K H' v s := by
  obtain ⟨r, h1, h2⟩ := h
  exact ⟨r, h1, Same.seqT e h2⟩
theorem PrT.but {K : PySem.W.Frag} {H H' : Hp} {p l : Addr} (e : But p H H') (hp : PoolAt H p l) {v : V} {s : Int × Int} (h : PrT K H v s) : PrT K H' v s := by
  obtain ⟨r, h1, h2⟩ := h
  exact ⟨r, h1, e.seqT hp h2⟩
theorem SpsT.same {K : PySem.W.Frag} {H H' : Hp} (e : Same H H') {a : Addr} {sp : List (Int × Int)} (h : SpsT K H a sp) : SpsT K H' a sp := by
  obtain ⟨vs, h1, h2⟩ := h
  exact ⟨vs, Same.seqT e h1, paired_map (fun _ _ => PrT.same e) h2⟩
theorem SpsT.but {K : PySem.W.Frag} {H H' : Hp} {p l : Addr} (e : But p H H') (hp : PoolAt H p l) {a : Addr} {sp : List (Int × Int)} (h : SpsT K H a sp) : SpsT K H' a sp := by
  obtain ⟨vs, h1, h2⟩ := h
  exact ⟨vs, e.seqT hp h1, paired_map (fun _ _ => PrT.but e hp) h2⟩
def ticksOf (sp : List (Int × Int)) : List Int := sp.flatMap fun s => (List.range (s.2 - s.1).toNat).map fun i => s.1 + (i : Nat)
def GoodSp : List (Int × Int) → Int → Prop
  | [], _ => True
  | (b, e) :: r, lo => lo ≤ b ∧ b < e ∧ GoodSp r (e + 1)
theorem GoodSp.snoc {x y : Int} (hxy : x < y) : ∀ {sp : List (Int × Int)} {lo : Int}, GoodSp sp lo → lo ≤ x → (∀ s ∈ sp, s.2 + 1 ≤ x) → GoodSp (sp ++ [(x, y)]) lo
  | [], lo, _, h, _ => ⟨h, hxy, trivial⟩
  | (b, e) :: r, lo, hg, h, ha => ⟨hg.1, hg.2.1, GoodSp.snoc hxy hg.2.2 (ha (b, e) (List.mem_cons_self ..)) fun s hs => ha s (List.mem_cons_of_mem _ hs)⟩
theorem mem_ticks {sp : List (Int × Int)} {t : Int} : t ∈ ticksOf sp ↔ ∃ s ∈ sp, s.1 ≤ t ∧ t < s.2 := by
  unfold ticksOf
  rw [List.mem_flatMap]
  constructor
  · rintro ⟨s, hs, h⟩
    obtain ⟨i, hi, rfl⟩ := List.mem_map.mp h
    rw [List.mem_range] at hi
    exact ⟨s, hs, by omega, by omega⟩
  · rintro ⟨s, hs, h1, h2⟩
    refine ⟨s, hs, List.mem_map.mpr ⟨(t - s.1).toNat, List.mem_range.mpr (by omega), by omega⟩⟩
theorem ticks_len {sp : List (Int × Int)} (h : ∀ s ∈ sp, s.2 - s.1 ≤ 90) : (ticksOf sp).length ≤ 90 * sp.length := by
  induction sp with
  | nil => exact Nat.le_refl _
  | cons s r ih =>
    have h1 := ih fun s hs => h s (List.mem_cons_of_mem _ hs)
    have h2 := h s (List.mem_cons_self ..)
    unfold ticksOf at h1 ⊢
    rw [List.flatMap_cons, List.length_append, List.length_map, List.length_range, List.length_cons]
    omega
theorem GoodSp.lo : ∀ {sp : List (Int × Int)} {lo : Int}, GoodSp sp lo → ∀ s ∈ sp, lo ≤ s.1 ∧ s.1 < s.2
  | (b, e) :: r, lo, hg, s, hs => by
    rcases List.mem_cons.mp hs with rfl | hs
    · exact ⟨hg.1, hg.2.1⟩
    · have h1 := GoodSp.lo hg.2.2 s hs
      have h2 := hg.1
      have h3 := hg.2.1
      exact ⟨by omega, h1.2⟩
theorem SqT.updL {K : PySem.W.Frag} {H : Hp} {a f : Addr} {xs us : List V} {o : HO} (h : SqT K H a xs) (hf : H f = some (.lst us)) : SqT K (upd H f o) a xs := by
  rcases h with (h | ⟨o, h⟩) | h
  · exact .inl (.inl (by rw [upd_ne (ne_of h hf (by intro z; cases z))]; exact h))
  · exact .inl (.inr ⟨o, by rw [upd_ne (ne_of h hf (by intro z; cases z))]; exact h⟩)
  · exact .inr h
theorem PrT.updL {K : PySem.W.Frag} {H : Hp} {f : Addr} {us : List V} {o : HO} {v : V} {s : Int × Int} (h : PrT K H v s) (hf : H f = some (.lst us)) : PrT K (upd H f o) v s := by
  obtain ⟨r, h1, h2⟩ := h
  exact ⟨r, h1, SqT.updL h2 hf⟩
end Tw

namespace Tw
open PySem PySem.Spec PyProof.Rows L2
/-! ### a range as a value, and walked -/
section
variable {X : Cx} {tg : Expr}
def rRange1 : List V → Hp → VK → Prop := fun vs H Q => ∃ j, vs = [V.int j] ∧ ∀ p, H p = none → Q (.ref p) (upd H p (.rng 0 j))
theorem callRange1 : CallR X (.type "range") rRange1 := by
  rintro pins s σ H vs us Q I r ⟨j, rfl, q⟩
  obtain ⟨u1, rfl, t, rfl⟩ := vals1 r
  exact call_range_1 ⟨.ref s.heap.objs.size, upd H s.heap.objs.size (.rng 0 j), I.laid (t' := s.toks + 1 + 1) (o := .rng 0 j) (fun b o e => Heap.get?_push_of_some _ e) (Nat.le_refl _) ⟨_, _, _, Heap.get?_push_size _ rfl⟩, rfl, q _ (I.hok.fresh (Nat.le_refl _))⟩
theorem o_range1 {H : Hp} {Q : VK} {j : Int} (h : Fresh H (.rng 0 j) Q) : rRange1 [.int j] H Q := ⟨j, rfl, fresh_of h⟩
/-- what stands in a name and is a range -/
def iRngV (tl : TE) : TI := fun σ H R => tl σ H fun x H1 => ∃ a lo hi, x = .ref a ∧ H1 a = some (.rng lo hi) ∧ (-(2 ^ 62) ≤ lo ∧ lo < 2 ^ 62 ∧ -(2 ^ 62) ≤ hi ∧ hi < 2 ^ 62) ∧ R (Itr lo (hi - lo).toNat) H1
theorem piRngV {l : Expr} {tl : TE} (hl : PE X l tl) : PI X tg l (iRngV tl) := by
  refine ⟨fun pins s σ H R I h => thn (hl.run pins s σ H _ I h) fun v s1 ⟨x, H1, I1, r1, q1⟩ => ?_⟩
  obtain ⟨a, lo, hi, rfl, ha, ⟨h1, h2, h3, h4⟩, q⟩ := q1
  cases r1
  obtain ⟨t, u, v, hob⟩ := (show ObjOk X.prog X.w H1 s1.heap a (.rng lo hi) from I1.hok a _ ha)
  refine wpAny_pyIter_range (r := a) (show IsRange s1.heap a lo hi 1 t u v from hob) (small_one h1 h2 h3 h4) ?_
  refine ⟨_, [s1.heap.objs.size], _, _, H1, rfl, I1.kept (t' := s1.toks) fun b o e => Heap.get?_push_of_some _ e, turn_range s1.heap.objs.size lo (hi - lo).toNat, ?_, fun b hb => ?_, q⟩
  · have e2 : (((hi - lo).toNat : Nat) : Int) - ((0 : Nat) : Int) = Builtin.Range.rangeSize lo hi 1 := by
      rw [rangeSize_one]
      split <;> omega
    show IsRangeIter _ _ (lo + ((0 : Nat) : Int) * 1) ((((hi - lo).toNat : Nat) : Int) - ((0 : Nat) : Int)) 1
    rw [e2, show lo + ((0 : Nat) : Int) * 1 = lo by simp]
    exact Heap.get?_push_size _ rfl
  · obtain rfl : b = s1.heap.objs.size := by simpa using hb
    exact I1.fpOk (Nat.le_refl _) (I1.hok.fresh (Nat.le_refl _))
end
def kLcV (g : TG) (tt : TT) (te : TE) (vs : List Nat) (σ : L2.St) (Q : VK) : VK := fun x H1 => ∃ a lo hi, x = .ref a ∧ H1 a = some (.rng lo hi) ∧ (-(2 ^ 62) ≤ lo ∧ lo < 2 ^ 62 ∧ -(2 ^ 62) ≤ hi ∧ hi < 2 ^ 62) ∧ CompW (Itr lo (hi - lo).toNat) g tt te vs σ Q H1
/-! ### two clauses in a comprehension -/
def In2W (J1 : It) (g1 : TG) (tt1 : TT) (te : TE) (vs1 : List Nat) (dd : Addr) (σ2 : L2.St) (Nx : Hp → Prop) (H4 : Hp) : Prop := ∃ W1 : Nat → Nat → Hp → Prop, (∃ m, W1 0 m H4) ∧ ∀ j k H, W1 j k H →
  (J1.stop j H ∧ Nx H) ∨ (J1.go j H ∧ ∃ Nx1 : Hp → Prop, (∀ H', Nx1 H' → ∃ k', k' < k ∧ W1 (j + 1) k' H') ∧ ∀ x H', J1.yld j H x H' → g1 x (wipe σ2 vs1) H' (kTurn tt1 te dd vs1 σ2 Nx1))
def kTst2 (wi1 : TI) (g1 : TG) (tt1 : TT) (te : TE) (vs1 : List Nat) (dd : Addr) (σ2 : L2.St) (Nx : Hp → Prop) : Bool → Hp → Prop := fun b H3 => if b = true then wi1 σ2 H3 (fun J1 H4 => In2W J1 g1 tt1 te vs1 dd σ2 Nx H4) else Nx H3
def kTurn2 (tt : TT) (wi1 : TI) (g1 : TG) (tt1 : TT) (te : TE) (vs vs1 : List Nat) (dd : Addr) (σ : L2.St) (Nx : Hp → Prop) : L2.St → Hp → Prop := fun σ2 H2 => wipe σ2 vs = wipe σ vs ∧ tt σ2 H2 (kTst2 wi1 g1 tt1 te vs1 dd σ2 Nx)
def Comp2W (J : It) (g : TG) (tt : TT) (wi1 : TI) (g1 : TG) (tt1 : TT) (te : TE) (vs vs1 : List Nat) (σ : L2.St) (Q : VK) (H1 : Hp) : Prop := ∀ D, H1 D = none → ∃ W : Nat → Nat → Hp → Prop, (∃ m, W 0 m (upd H1 D (.lst []))) ∧ ∀ i m H, W i m H →
  (J.stop i H ∧ Q (.ref D) H) ∨ (J.go i H ∧ ∃ Nx : Hp → Prop, (∀ H', Nx H' → ∃ m', m' < m ∧ W (i + 1) m' H') ∧ ∀ x H', J.yld i H x H' → g x (wipe σ vs) H' (kTurn2 tt wi1 g1 tt1 te vs vs1 D σ Nx))
def kLc2R2 (g : TG) (tt : TT) (wi1 : TI) (g1 : TG) (tt1 : TT) (te : TE) (vs vs1 : List Nat) (σ : L2.St) (Q : VK) : List V → Hp → Prop := fun ws H1 => ∃ i j : Int, ws = [.int i, .int j] ∧ (-(2 ^ 62) ≤ i ∧ i < 2 ^ 62 ∧ -(2 ^ 62) ≤ j ∧ j < 2 ^ 62) ∧ Comp2W (Itr i (j - i).toNat) g tt wi1 g1 tt1 te vs vs1 σ Q H1
def kIn2R1 (g1 : TG) (tt1 : TT) (te : TE) (vs1 : List Nat) (dd : Addr) (σ2 : L2.St) (Nx : Hp → Prop) : List V → Hp → Prop := fun ws H1 => ∃ j : Int, ws = [.int j] ∧ -(2 ^ 62) ≤ j ∧ j < 2 ^ 62 ∧ In2W (Itr 0 j.toNat) g1 tt1 te vs1 dd σ2 Nx H1
section
variable {K : PySem.W.Frag} {σ : L2.St} {H : Hp} {Q : VK} {te ta : TE} {t t1 : TT} {ts ts1 : TA} {g g1 : TG} {wi1 : TI}
theorem w_lcV {ws : List Nat} (h : ta σ H (kLcV g t te ws σ Q)) : tLc (iRngV ta) g t te ws σ H Q := h
theorem k_lcV {a : Addr} {j : Int} {ws : List Nat} (ha : H a = some (.rng 0 j)) (hj : -1000000 ≤ j ∧ j ≤ 1000000) (h : ∀ dd, H dd = none → ∃ Pv : Nat → Hp → Prop, Pv 0 (upd H dd (.lst [])) ∧
    (∀ (i : Nat) H, (i : Int) < j → Pv i H → g (.int (i : Int)) (wipe σ ws) H (kTurn t te dd ws σ (Pv (i + 1)))) ∧ ∀ H, Pv j.toNat H → Q (.ref dd) H) : kLcV g t te ws σ Q (.ref a) H :=
  ⟨a, 0, j, rfl, ha, by omega, fun dd hd => by
    obtain ⟨Pv, h0, hs, he⟩ := h dd hd
    rw [Int.sub_zero]
    exact lc_range (lo := 0) (n := j.toNat) Pv h0 (fun i H hi p => by
      rw [Int.zero_add]
      exact hs i H (by omega) p) he⟩
theorem w_lc2R2 {ws ws1 : List Nat} (h : ts σ H (kLc2R2 g t wi1 g1 t1 te ws ws1 σ Q)) : tLc2 (iRng2 ts) g t wi1 g1 t1 te ws ws1 σ H Q := h
theorem k_lc2R2 {lo hi : Int} {ws ws1 : List Nat} (hj : -1000000 ≤ lo ∧ lo ≤ 1000000 ∧ -1000000 ≤ hi ∧ hi ≤ 1000000) (h : ∀ dd, H dd = none → ∃ Pv : Nat → Hp → Prop, Pv 0 (upd H dd (.lst [])) ∧
    (∀ (i : Nat) H, lo + (i : Int) < hi → Pv i H → g (.int (lo + (i : Int))) (wipe σ ws) H (kTurn2 t wi1 g1 t1 te ws ws1 dd σ (Pv (i + 1)))) ∧ ∀ H, Pv (hi - lo).toNat H → Q (.ref dd) H) : kLc2R2 g t wi1 g1 t1 te ws ws1 σ Q [.int lo, .int hi] H :=
  ⟨lo, hi, rfl, by omega, fun dd hd => by
    obtain ⟨Pv, h0, hs, he⟩ := h dd hd
    refine ⟨fun i m H => m = (hi - lo).toNat - i ∧ i ≤ (hi - lo).toNat ∧ Pv i H, ⟨_, rfl, Nat.zero_le _, h0⟩, ?_⟩
    rintro i m H ⟨rfl, hi', p⟩
    by_cases hlt : i < (hi - lo).toNat
    · refine .inr ⟨hlt, Pv (i + 1), fun H' p' => ⟨(hi - lo).toNat - (i + 1), by omega, rfl, hlt, p'⟩, ?_⟩
      rintro x H' ⟨rfl, rfl⟩
      exact hs i _ (by omega) p
    · obtain rfl : i = (hi - lo).toNat := by omega
      exact .inl ⟨Nat.le_refl _, he H p⟩⟩
theorem k_turn2 {dd : Addr} {ws ws1 : List Nat} {σ0 : L2.St} {Nx : Hp → Prop} (e : wipe σ ws = wipe σ0 ws) (h : t σ H (kTst2 wi1 g1 t1 te ws1 dd σ Nx)) : kTurn2 t wi1 g1 t1 te ws ws1 dd σ0 Nx σ H := ⟨e, h⟩
theorem k_yes2 {dd : Addr} {ws1 : List Nat} {Nx : Hp → Prop} (h : wi1 σ H (fun J1 H4 => In2W J1 g1 t1 te ws1 dd σ Nx H4)) : tYes σ H (kTst2 wi1 g1 t1 te ws1 dd σ Nx) := h
theorem w_in2R1 {dd : Addr} {ws1 : List Nat} {Nx : Hp → Prop} (h : ts σ H (kIn2R1 g1 t1 te ws1 dd σ Nx)) : iRng1 ts σ H (fun J1 H4 => In2W J1 g1 t1 te ws1 dd σ Nx H4) := h
theorem k_in2R1 {dd : Addr} {ws1 : List Nat} {Nx : Hp → Prop} {j : Int} (hj : -1000000 ≤ j ∧ j ≤ 1000000) (Pw : Nat → Hp → Prop) (h0 : Pw 0 H) (hs : ∀ (i : Nat) H, (i : Int) < j → Pw i H → g1 (.int (i : Int)) (wipe σ ws1) H (kTurn t1 te dd ws1 σ (Pw (i + 1)))) (he : ∀ H, Pw j.toNat H → Nx H) : kIn2R1 g1 t1 te ws1 dd σ Nx [.int j] H :=
  ⟨j, rfl, by omega, by omega, ⟨fun i m H => m = j.toNat - i ∧ i ≤ j.toNat ∧ Pw i H, ⟨_, rfl, Nat.zero_le _, h0⟩, by
    rintro i m H ⟨rfl, hi', p⟩
    by_cases hlt : i < j.toNat
    · refine .inr ⟨hlt, Pw (i + 1), fun H' p' => ⟨j.toNat - (i + 1), by omega, rfl, hlt, p'⟩, ?_⟩
      rintro x H' ⟨rfl, rfl⟩
      rw [Int.zero_add]
      exact hs i _ (by omega) p
    · obtain rfl : i = j.toNat := by omega
      exact .inl ⟨Nat.le_refl _, he H p⟩⟩⟩
end
theorem mtCountK {X : Cx} {K : PySem.W.Frag} (e : X.K = K) : MtR X "list.count" (rCntI K) := e ▸ mt_lcount
theorem o_cnt {K : PySem.W.Frag} {H : Hp} {Q : VK} {p : Addr} {ns : List Int} {z : Int} (hs : SqL K H p (ns.map V.int)) (h : Q (.int (ns.count z : Nat)) H) : rCntI K (.ref p) [.int z] H Q := ⟨p, ns, z, rfl, rfl, hs, h⟩
theorem o_sortedI {K : PySem.W.Frag} {H : Hp} {Q : VK} {p : Addr} {ns : List Int} (hs : SqL K H p (ns.map V.int)) (h : ∀ ns' : List Int, ns'.Perm ns → ns'.Pairwise (· ≤ ·) → Fresh H (.lst (ns'.map V.int)) Q) : rSortedI K [.ref p] H Q := ⟨p, ns, rfl, hs, fun ns' q h1 h2 nq => fresh_of (h ns' h1 h2) q nq⟩
theorem o_slTR {K : PySem.W.Frag} {H : Hp} {Q : VK} {p : Addr} {ws : List Int} {a b : Nat} (hs : SqT K H p (ws.map V.int)) (hab : a ≤ b) (hb : b ≤ ws.length) (h : ∀ q H', Same H H' → SqT K H' q (((ws.drop a).take (b - a)).map V.int) → Q (.ref q) H') : rSl K (.ref p) (some ((a : Nat) : Int)) (some ((b : Nat) : Int)) H Q := o_slT hs fun q H' e hq => h q H' e (by
  have ec : cutV (ws.map V.int) (some ((a : Nat) : Int)) (some ((b : Nat) : Int)) = ((ws.drop a).take (b - a)).map V.int := by
    unfold cutV
    rw [HT.sIx_nat, HT.sIx_nat, List.length_map, Nat.min_eq_left hb, Nat.min_eq_left (Nat.le_trans hab hb), List.map_take, List.map_drop]
  rw [← ec]
  exact hq)
theorem getD_atI {cs : List Int} {k : Nat} (hk : k < cs.length) : (cs.map V.int)[k]? = some (.int (cs.getD k 0)) := by
  rw [List.getElem?_map, List.getElem?_eq_getElem hk, List.getD_eq_getElem?_getD, List.getElem?_eq_getElem hk]
  rfl
def nV (n : Nat) : V := .int ((n : Nat) : Int)
theorem getD_atN {cs : List Nat} {k : Nat} (hk : k < cs.length) : (cs.map nV)[k]? = some (.int ((cs.getD k 0 : Nat) : Int)) := by
  rw [List.getElem?_map, List.getElem?_eq_getElem hk, List.getD_eq_getElem?_getD, List.getElem?_eq_getElem hk]
  rfl
def optN : Option Nat → V
  | none => .non
  | some b => nV b
def optND : Option Nat → PyData
  | none => .none
  | some b => .int ((b : Nat) : Int)
theorem optN_dp {K : PySem.W.Frag} {H : Hp} : ∀ l : List (Option Nat), DpAll K H (l.map optN) (l.map optND)
  | [] => .nil
  | none :: l => .cons .non (optN_dp l)
  | some b :: l => .cons (.int _) (optN_dp l)
end Tw

namespace Tw
/-! ### bays in rows -/
/-- the bays from a on, n of them, each as often as it has work -/
def rowN (ws : List Int) (a n : Nat) : List Nat := (List.range n).flatMap fun j => List.replicate (ws.getD (a + j) 0).toNat (a + j)
theorem rowN_succ {ws : List Int} {a n : Nat} : rowN ws a (n + 1) = rowN ws a n ++ List.replicate (ws.getD (a + n) 0).toNat (a + n) := by
  unfold rowN
  rw [List.range_succ, List.flatMap_append, List.flatMap_cons, List.flatMap_nil, List.append_nil]
theorem rowN_mem {ws : List Int} {a n b : Nat} (h : b ∈ rowN ws a n) : a ≤ b ∧ b < a + n := by
  unfold rowN at h
  obtain ⟨j, hj, hb⟩ := List.mem_flatMap.mp h
  have h1 := List.mem_range.mp hj
  have h2 := List.eq_of_mem_replicate hb
  omega
theorem rowN_count {ws : List Int} {a b : Nat} (n : Nat) : (rowN ws a n).count b = if a ≤ b ∧ b < a + n then (ws.getD b 0).toNat else 0 := by
  induction n with
  | zero =>
    rw [if_neg (by omega)]
    rfl
  | succ n ih =>
    rw [rowN_succ, List.count_append, ih, List.count_replicate]
    by_cases e : a + n = b
    · subst e
      have h1 : ¬ (a ≤ a + n ∧ a + n < a + n) := by omega
      have h2 : a ≤ a + n ∧ a + n < a + (n + 1) := by omega
      rw [if_neg h1, if_pos h2]
      simp
    · have e' : ¬ ((a + n == b) = true) := by simpa using e
      rw [if_neg e']
      by_cases h : a ≤ b ∧ b < a + n
      · have h2 : a ≤ b ∧ b < a + (n + 1) := by omega
        rw [if_pos h, if_pos h2, Nat.add_zero]
      · have h2 : ¬ (a ≤ b ∧ b < a + (n + 1)) := by omega
        rw [if_neg h, if_neg h2]
theorem rowN_sorted {ws : List Int} {a : Nat} (n : Nat) : (rowN ws a n).Pairwise (· ≤ ·) := by
  induction n with
  | zero => exact .nil
  | succ n ih =>
    rw [rowN_succ]
    refine List.pairwise_append.mpr ⟨ih, ?_, fun x hx y hy => ?_⟩
    · exact List.pairwise_replicate.mpr (.inr (Nat.le_refl _))
    · have h1 := rowN_mem hx
      have h2 := List.eq_of_mem_replicate hy
      omega
theorem rowN_len {ws : List Int} {a : Nat} (h0 : ∀ x ∈ ws, 0 ≤ x) (n : Nat) (h : a + n ≤ ws.length) : ((rowN ws a n).length : Int) = ((ws.drop a).take n).sum := by
  induction n with
  | zero => rfl
  | succ n ih =>
    have hl : n < (ws.drop a).length := by rw [List.length_drop]; omega
    have hg : (ws.drop a)[n]? = some (ws.getD (a + n) 0) := by
      rw [List.getElem?_drop, List.getD_eq_getElem?_getD, List.getElem?_eq_getElem (by omega)]
      rfl
    rw [rowN_succ, List.length_append, List.length_replicate, L2.sum_take hg, Int.natCast_add, ih (by omega)]
    have : 0 ≤ ws.getD (a + n) 0 := by
      rw [List.getD_eq_getElem?_getD, List.getElem?_eq_getElem (by omega)]
      exact h0 _ (List.getElem_mem _)
    omega
/-! ### sums with one term -/
def sumN (n : Nat) (f : Nat → Nat) : Nat := ((List.range n).map f).sum
theorem sumN_succ {n : Nat} {f : Nat → Nat} : sumN (n + 1) f = sumN n f + f n := by
  unfold sumN
  rw [List.range_succ, List.map_append, List.sum_append]
  simp
theorem sumN_zero {f : Nat → Nat} : ∀ n, (∀ j, j < n → f j = 0) → sumN n f = 0
  | 0, _ => rfl
  | n + 1, h => by rw [sumN_succ, sumN_zero n fun j hj => h j (by omega), h n (by omega)]
theorem sumN_one {f : Nat → Nat} {k : Nat} : ∀ n, k < n → (∀ j, j < n → j ≠ k → f j = 0) → sumN n f = f k
  | 0, hk, _ => absurd hk (Nat.not_lt_zero k)
  | n + 1, hk, h => by
    rw [sumN_succ]
    by_cases e : k = n
    · subst e
      rw [sumN_zero k fun j hj => h j (by omega) (by omega), Nat.zero_add]
    · rw [sumN_one n (by omega) fun j hj hn => h j (by omega) hn, h n (by omega) (by omega), Nat.add_zero]
theorem sumN_congr {f g : Nat → Nat} : ∀ n, (∀ j, j < n → f j = g j) → sumN n f = sumN n g
  | 0, _ => rfl
  | n + 1, h => by rw [sumN_succ, sumN_succ, sumN_congr n fun j hj => h j (by omega), h n (by omega)]
theorem sumN_add {f g : Nat → Nat} : ∀ n, sumN n (fun j => f j + g j) = sumN n f + sumN n g
  | 0 => rfl
  | n + 1 => by rw [sumN_succ, sumN_succ, sumN_succ, sumN_add n]; omega
/-! ### a share's rows, tick by tick -/
structure ShOk (sh : List Nat) (c N : Nat) : Prop where
  len : sh.length = c + 1
  zero : sh.getD 0 0 = 0
  last : sh.getD c 0 = N
  mono : ∀ i j, i ≤ j → j ≤ c → sh.getD i 0 ≤ sh.getD j 0
def rw_ (ws : List Int) (sh : List Nat) (k : Nat) : List Nat := rowN ws (sh.getD k 0) (sh.getD (k + 1) 0 - sh.getD k 0)
def leftN (ws : List Int) (sh : List Nat) (c t b : Nat) : Nat := sumN c fun k => ((rw_ ws sh k).drop t).count b
section
variable {ws : List Int} {sh : List Nat} {c N : Nat}
theorem rw_mem (S : ShOk sh c N) {k b : Nat} (hk : k < c) (h : b ∈ rw_ ws sh k) : sh.getD k 0 ≤ b ∧ b < sh.getD (k + 1) 0 := by
  have := rowN_mem h
  have := S.mono k (k + 1) (by omega) (by omega)
  omega
theorem left_at (S : ShOk sh c N) {t k b : Nat} (hk : k < c) (h1 : sh.getD k 0 ≤ b) (h2 : b < sh.getD (k + 1) 0) : leftN ws sh c t b = ((rw_ ws sh k).drop t).count b := by
  refine sumN_one c hk fun j hj hn => List.count_eq_zero.mpr fun hm => ?_
  have hm := rw_mem S hj (List.mem_of_mem_drop hm)
  rcases Nat.lt_or_gt_of_ne hn with q | q
  · have := S.mono (j + 1) k (by omega) (by omega)
    omega
  · have := S.mono (k + 1) j (by omega) (by omega)
    omega
theorem crane_of (S : ShOk sh c N) {b : Nat} (hb : b < N) : ∃ k, k < c ∧ sh.getD k 0 ≤ b ∧ b < sh.getD (k + 1) 0 := by
  have key : ∀ n, n ≤ c → b < sh.getD n 0 → ∃ k, k < n ∧ sh.getD k 0 ≤ b ∧ b < sh.getD (k + 1) 0 := by
    intro n
    induction n with
    | zero =>
      intro _ h
      rw [S.zero] at h
      omega
    | succ n ih =>
      intro hn h
      by_cases q : b < sh.getD n 0
      · obtain ⟨k, hk, z⟩ := ih (by omega) q
        exact ⟨k, by omega, z⟩
      · exact ⟨n, Nat.lt_succ_self n, by omega, h⟩
  exact key c (Nat.le_refl c) (by rw [S.last]; exact hb)
theorem left_zero (S : ShOk sh c N) {b : Nat} (hb : b < N) : leftN ws sh c 0 b = (ws.getD b 0).toNat := by
  obtain ⟨k, hk, h1, h2⟩ := crane_of S hb
  rw [left_at S hk h1 h2, List.drop_zero]
  unfold rw_
  rw [rowN_count, if_pos (by omega)]
def atN (ws : List Int) (sh : List Nat) (c t : Nat) : List Nat := (List.range c).filterMap fun k => (rw_ ws sh k)[t]?
theorem atN_succ {t : Nat} : atN ws sh (c + 1) t = atN ws sh c t ++ (match (rw_ ws sh c)[t]? with | none => [] | some b => [b]) := by
  unfold atN
  rw [List.range_succ, List.filterMap_append, List.filterMap_cons, List.filterMap_nil]
  cases (rw_ ws sh c)[t]? <;> rfl
theorem atN_count {t b : Nat} : ∀ n, (atN ws sh n t).count b = sumN n fun k => if (rw_ ws sh k)[t]? = some b then 1 else 0
  | 0 => rfl
  | n + 1 => by
    rw [atN_succ, List.count_append, atN_count n, sumN_succ]
    cases e : (rw_ ws sh n)[t]? with
    | none => simp
    | some x =>
      by_cases q : x = b
      · subst q
        simp
      · have : ¬ some x = some b := fun z => q (Option.some.inj z)
        rw [if_neg this]
        simp [q]
theorem left_step {t b : Nat} : leftN ws sh c t b = leftN ws sh c (t + 1) b + (atN ws sh c t).count b := by
  rw [atN_count]
  unfold leftN
  rw [← sumN_add]
  refine sumN_congr c fun k _ => ?_
  cases e : (rw_ ws sh k)[t]? with
  | none =>
    have h := List.getElem?_eq_none_iff.mp e
    rw [List.drop_eq_nil_of_le h, List.drop_eq_nil_of_le (by omega)]
    simp
  | some x =>
    rw [drop_cons e, List.count_cons]
    by_cases q : x = b
    · subst q
      simp
    · have : ¬ some x = some b := fun z => q (Option.some.inj z)
      rw [if_neg this]
      simp [q]
theorem left_done {m b : Nat} (h : ∀ k, k < c → (rw_ ws sh k).length ≤ m) : leftN ws sh c m b = 0 := sumN_zero c fun k hk => by
  rw [List.drop_eq_nil_of_le (h k hk)]
  rfl
theorem atN_up (S : ShOk sh c N) {t : Nat} : ∀ n, n ≤ c → (atN ws sh n t).Pairwise (· < ·) ∧ ∀ b ∈ atN ws sh n t, b < sh.getD n 0
  | 0, _ => ⟨.nil, fun b hb => by cases hb⟩
  | n + 1, hn => by
    obtain ⟨h1, h2⟩ := atN_up S (t := t) n (by omega)
    rw [atN_succ]
    have hm := S.mono n (n + 1) (by omega) (by omega)
    cases e : (rw_ ws sh n)[t]? with
    | none =>
      simp only [List.append_nil]
      exact ⟨h1, fun b hb => Nat.lt_of_lt_of_le (h2 b hb) hm⟩
    | some x =>
      have hx := rw_mem S (k := n) (by omega) (List.mem_of_getElem? e)
      refine ⟨List.pairwise_append.mpr ⟨h1, List.pairwise_singleton _ _, fun a ha b hb => ?_⟩, fun b hb => ?_⟩
      · rw [List.mem_singleton] at hb
        have := h2 a ha
        omega
      · rcases List.mem_append.mp hb with hb | hb
        · exact Nat.lt_of_lt_of_le (h2 b hb) hm
        · rw [List.mem_singleton] at hb
          omega
end
/-- the bays in a range that have work left: the first one is the row's next -/
theorem first_left {ws : List Int} {a n t : Nat} : ((List.range n).filter fun j => decide (0 < ((rowN ws a n).drop t).count (a + j))).head?.map (a + ·) = (rowN ws a n)[t]? := by
  have hp := List.Pairwise.drop (i := t) (rowN_sorted (ws := ws) (a := a) n)
  cases e : (rowN ws a n)[t]? with
  | none =>
    have h := List.getElem?_eq_none_iff.mp e
    rw [List.drop_eq_nil_of_le h]
    simp
  | some x =>
    rw [drop_cons e] at hp ⊢
    have hx := rowN_mem (List.mem_of_getElem? e)
    rw [List.head?_filter]
    have hf : (List.range n).find? (fun j => decide (0 < (x :: (rowN ws a n).drop (t + 1)).count (a + j))) = some (x - a) := by
      rw [List.find?_range_eq_some]
      refine ⟨?_, List.mem_range.mpr (by omega), fun j hj => ?_⟩
      · rw [decide_eq_true_iff, show a + (x - a) = x by omega]
        exact List.count_pos_iff.mpr (List.mem_cons_self ..)
      · rw [Bool.not_eq_true', decide_eq_false_iff_not]
        intro q
        have hm := List.count_pos_iff.mp q
        rcases List.mem_cons.mp hm with z | z
        · omega
        · have := (List.pairwise_cons.mp hp).1 _ z
          omega
    rw [hf]
    show some (a + (x - a)) = some x
    rw [show a + (x - a) = x by omega]
end Tw

namespace Tw
/-! ### works in a row, cut into parts whose sums are at most M -/
/-- the further cranes behind one that has the load already -/
def more (M : Int) : Int → List Int → Nat
  | _, [] => 0
  | load, w :: ws => if load + w > M then 1 + more M w ws else more M (load + w) ws
def needN (M : Int) : List Int → Nat
  | [] => 0
  | w :: ws => 1 + more M w ws
theorem more_both {M : Int} : ∀ {ws : List Int}, (∀ x ∈ ws, 0 ≤ x) → (∀ x y : Int, 0 ≤ y → more M x ws ≤ 1 + more M y ws) ∧ (∀ x y : Int, 0 ≤ y → y ≤ x → more M y ws ≤ more M x ws)
  | [], _ => ⟨fun _ _ _ => Nat.zero_le _, fun _ _ _ _ => Nat.le_refl _⟩
  | w :: ws, h => by
    have hw := h w (List.mem_cons_self ..)
    obtain ⟨b, c⟩ := more_both (M := M) (ws := ws) fun x hx => h x (List.mem_cons_of_mem _ hx)
    refine ⟨fun x y hy => ?_, fun x y hy hxy => ?_⟩
    · show (if x + w > M then 1 + more M w ws else more M (x + w) ws) ≤ 1 + (if y + w > M then 1 + more M w ws else more M (y + w) ws)
      by_cases p : x + w > M
      · rw [if_pos p]
        by_cases q : y + w > M
        · rw [if_pos q]
          omega
        · rw [if_neg q]
          have := c (y + w) w hw (by omega)
          omega
      · rw [if_neg p]
        by_cases q : y + w > M
        · rw [if_pos q]
          have := b (x + w) w hw
          omega
        · rw [if_neg q]
          exact b (x + w) (y + w) (by omega)
    · show (if y + w > M then 1 + more M w ws else more M (y + w) ws) ≤ (if x + w > M then 1 + more M w ws else more M (x + w) ws)
      by_cases q : y + w > M
      · rw [if_pos q, if_pos (by omega)]
        exact Nat.le_refl _
      · rw [if_neg q]
        by_cases p : x + w > M
        · rw [if_pos p]
          exact b (y + w) w hw
        · rw [if_neg p]
          exact c (x + w) (y + w) (by omega) (by omega)
theorem more_need {M load : Int} : ∀ {ws : List Int}, (∀ x ∈ ws, 0 ≤ x) → more M load ws ≤ needN M ws
  | [], _ => Nat.le_refl _
  | w :: ws, h => by
    have hw := h w (List.mem_cons_self ..)
    obtain ⟨b, _⟩ := more_both (M := M) (ws := ws) fun x hx => h x (List.mem_cons_of_mem _ hx)
    show (if load + w > M then 1 + more M w ws else more M (load + w) ws) ≤ 1 + more M w ws
    by_cases p : load + w > M
    · rw [if_pos p]
      exact Nat.le_refl _
    · rw [if_neg p]
      exact b (load + w) w hw
theorem sum_nonneg : ∀ {l : List Int}, (∀ x ∈ l, 0 ≤ x) → 0 ≤ l.sum
  | [], _ => Int.le_refl 0
  | x :: l, h => by
    have h1 := h x (List.mem_cons_self ..)
    have h2 := sum_nonneg (l := l) fun x hx => h x (List.mem_cons_of_mem _ hx)
    rw [List.sum_cons]
    omega
theorem more_app {M : Int} {b : List Int} : ∀ {a : List Int} {load : Int}, (∀ x ∈ a, 0 ≤ x) → load + a.sum ≤ M → more M load (a ++ b) = more M (load + a.sum) b
  | [], load, _, _ => by simp
  | w :: a, load, h, hs => by
    rw [List.sum_cons] at hs ⊢
    have h2 := sum_nonneg (l := a) fun x hx => h x (List.mem_cons_of_mem _ hx)
    show (if load + w > M then 1 + more M w (a ++ b) else more M (load + w) (a ++ b)) = _
    rw [if_neg (by omega), more_app (fun x hx => h x (List.mem_cons_of_mem _ hx)) (by omega), Int.add_assoc]
theorem need_app {M : Int} {a b : List Int} (ha : ∀ x ∈ a, 0 ≤ x) (hb : ∀ x ∈ b, 0 ≤ x) (hs : a.sum ≤ M) : needN M (a ++ b) ≤ 1 + needN M b := by
  cases a with
  | nil =>
    show needN M b ≤ _
    omega
  | cons w a =>
    rw [List.sum_cons] at hs
    show 1 + more M w (a ++ b) ≤ _
    rw [more_app (fun x hx => ha x (List.mem_cons_of_mem _ hx)) hs]
    exact Nat.add_le_add_left (more_need hb) 1
/-- cut into c parts with sums of at most M -/
inductive Split (M : Int) : Nat → List Int → Prop
  | nil : Split M 0 []
  | cons {c : Nat} {a b : List Int} : a.sum ≤ M → Split M c b → Split M (c + 1) (a ++ b)
/-- no cut has fewer parts than counted -/
theorem Split.need {M : Int} {c : Nat} {ws : List Int} (S : Split M c ws) : (∀ x ∈ ws, 0 ≤ x) → needN M ws ≤ c := by
  induction S with
  | nil => exact fun _ => Nat.le_refl _
  | @cons c a b hs _ ih =>
    intro h
    have h1 := need_app (M := M) (a := a) (b := b) (fun x hx => h x (List.mem_append_left _ hx)) (fun x hx => h x (List.mem_append_right _ hx)) hs
    have h2 := ih fun x hx => h x (List.mem_append_right _ hx)
    omega
/-- the first part that is counted ends somewhere -/
theorem more_end {M : Int} : ∀ {ws : List Int} {load : Int}, load ≤ M → (∀ x ∈ ws, x ≤ M) → ∃ e, e ≤ ws.length ∧ load + (ws.take e).sum ≤ M ∧ needN M (ws.drop e) = more M load ws
  | [], load, hl, _ => ⟨0, Nat.le_refl _, by simpa using hl, rfl⟩
  | w :: ws, load, hl, h => by
    by_cases p : load + w > M
    · refine ⟨0, Nat.zero_le _, by simpa using hl, ?_⟩
      show 1 + more M w ws = (if load + w > M then 1 + more M w ws else more M (load + w) ws)
      rw [if_pos p]
    · obtain ⟨e, h1, h2, h3⟩ := more_end (ws := ws) (load := load + w) (by omega) fun x hx => h x (List.mem_cons_of_mem _ hx)
      refine ⟨e + 1, by rw [List.length_cons]; omega, ?_, ?_⟩
      · rw [List.take_succ_cons, List.sum_cons]
        omega
      · show needN M (ws.drop e) = (if load + w > M then 1 + more M w ws else more M (load + w) ws)
        rw [if_neg p, h3]
theorem need_end {M : Int} {c : Nat} {ws : List Int} (h : ∀ x ∈ ws, x ≤ M) (h0 : 0 ≤ M) (hn : needN M ws ≤ c + 1) : ∃ e, e ≤ ws.length ∧ (ws.take e).sum ≤ M ∧ needN M (ws.drop e) ≤ c := by
  cases ws with
  | nil => exact ⟨0, Nat.le_refl _, by simpa using h0, Nat.zero_le _⟩
  | cons w ws =>
    obtain ⟨e, h1, h2, h3⟩ := more_end (ws := ws) (load := w) (h w (List.mem_cons_self ..)) fun x hx => h x (List.mem_cons_of_mem _ hx)
    refine ⟨e + 1, by rw [List.length_cons]; omega, ?_, ?_⟩
    · rw [List.take_succ_cons, List.sum_cons]
      exact h2
    · show needN M (ws.drop e) ≤ c
      have hn : 1 + more M w ws ≤ c + 1 := hn
      omega
theorem need_zero {M : Int} : ∀ {ws : List Int}, needN M ws ≤ 0 → ws = []
  | [], _ => rfl
  | w :: ws, h => by
    have h : 1 + more M w ws ≤ 0 := h
    omega
theorem take_sum_le {ws : List Int} (h : ∀ x ∈ ws, 0 ≤ x) {i j : Nat} (hij : i ≤ j) : (ws.take i).sum ≤ (ws.take j).sum := by
  have e : ws.take j = ws.take i ++ (ws.drop i).take (j - i) := by
    rw [← List.take_add, show i + (j - i) = j by omega]
  rw [e, List.sum_append]
  have := sum_nonneg (l := (ws.drop i).take (j - i)) fun x hx => h x (List.mem_of_mem_drop (List.mem_of_mem_take hx))
  omega
/-- the least end behind which few enough are needed has a part that is small enough -/
theorem least_end {M : Int} {c e0 : Nat} {ws : List Int} (hb : ∀ x ∈ ws, 0 ≤ x ∧ x ≤ M) (h0 : 0 ≤ M) (hn : needN M ws ≤ c + 1) (hl : ∀ e, e ≤ ws.length → needN M (ws.drop e) ≤ c → e0 ≤ e) : (ws.take e0).sum ≤ M := by
  obtain ⟨e, h1, h2, h3⟩ := need_end (fun x hx => (hb x hx).2) h0 hn
  have := take_sum_le (fun x hx => (hb x hx).1) (hl e h1 h3)
  omega
/-- counted as the program does: the number and the load so far -/
def needStep (M : Int) (st : Nat × Int) (w : Int) : Nat × Int := if st.1 = 0 ∨ st.2 + w > M then (st.1 + 1, w) else (st.1, st.2 + w)
theorem need_fold {M : Int} : ∀ {ws : List Int} {n : Nat} {load : Int}, 0 < n → (ws.foldl (needStep M) (n, load)).1 = n + more M load ws
  | [], n, load, _ => rfl
  | w :: ws, n, load, hn => by
    show (ws.foldl (needStep M) (needStep M (n, load) w)).1 = n + (if load + w > M then 1 + more M w ws else more M (load + w) ws)
    by_cases p : load + w > M
    · have e : needStep M (n, load) w = (n + 1, w) := if_pos (.inr p)
      rw [e, if_pos p, need_fold (Nat.succ_pos n)]
      omega
    · have e : needStep M (n, load) w = (n, load + w) := if_neg (by
        rintro (z | z)
        · have z : n = 0 := z
          omega
        · exact p z)
      rw [e, if_neg p, need_fold hn]
theorem need_run {M : Int} : ∀ {ws : List Int}, (ws.foldl (needStep M) (0, 0)).1 = needN M ws
  | [] => rfl
  | w :: ws => by
    have e : needStep M (0, 0) w = (1, w) := if_pos (.inl rfl)
    show (ws.foldl (needStep M) (needStep M (0, 0) w)).1 = 1 + more M w ws
    rw [e, need_fold (Nat.succ_pos 0)]
end Tw
namespace Tw
/-! ### the least greatest load -/
def seg (ws : List Int) (i j : Nat) : Int := ((ws.drop i).take (j - i)).sum
theorem Split.mono {M M' : Int} {c : Nat} {ws : List Int} (S : Split M c ws) (h : M ≤ M') : Split M' c ws := by
  induction S with
  | nil => exact .nil
  | cons hs _ ih => exact .cons (Int.le_trans hs h) ih
theorem Split.empty {M m : Int} {c : Nat} {ws : List Int} (S : Split M c ws) (hm : 0 ≤ m) : ws = [] → Split m c [] := by
  induction S with
  | nil => exact fun _ => .nil
  | @cons c a b hs _ ih =>
    intro h
    obtain ⟨rfl, rfl⟩ := List.append_eq_nil_iff.mp h
    exact .cons (a := []) (b := []) (by simpa using hm) (ih rfl)
theorem mem_le_sum : ∀ {l : List Int} {x : Int}, (∀ y ∈ l, 0 ≤ y) → x ∈ l → x ≤ l.sum
  | y :: l, x, h, hx => by
    have h1 := h y (List.mem_cons_self ..)
    have h2 := sum_nonneg (l := l) fun y hy => h y (List.mem_cons_of_mem _ hy)
    rw [List.sum_cons]
    rcases List.mem_cons.mp hx with rfl | hx
    · omega
    · have := mem_le_sum (fun y hy => h y (List.mem_cons_of_mem _ hy)) hx
      omega
theorem seg_left {a b : List Int} : seg (a ++ b) 0 a.length = a.sum := by
  unfold seg
  rw [List.drop_zero, Nat.sub_zero, List.take_left']
  rfl
theorem seg_right {a b : List Int} {i j : Nat} : seg (a ++ b) (a.length + i) (a.length + j) = seg b i j := by
  unfold seg
  rw [List.drop_append, List.drop_eq_nil_of_le (Nat.le_add_right _ _), List.nil_append, show a.length + i - a.length = i by omega, show a.length + j - (a.length + i) = j - i by omega]
/-- of a cut into c parts, the greatest part's sum alone will do -/
theorem Split.tight {M : Int} {c : Nat} {ws : List Int} (S : Split M c ws) : (∀ x ∈ ws, 0 ≤ x) → ws ≠ [] → ∃ i j, i < j ∧ j ≤ ws.length ∧ seg ws i j ≤ M ∧ Split (seg ws i j) c ws ∧ ∀ x ∈ ws, x ≤ seg ws i j := by
  induction S with
  | nil => exact fun _ h => absurd rfl h
  | @cons c a b hs S ih =>
    intro h0 hne
    have ha0 : ∀ x ∈ a, 0 ≤ x := fun x hx => h0 x (List.mem_append_left _ hx)
    have hb0 : ∀ x ∈ b, 0 ≤ x := fun x hx => h0 x (List.mem_append_right _ hx)
    have hsa := sum_nonneg ha0
    by_cases hb : b = []
    · subst hb
      have hane : a ≠ [] := fun z => hne (by rw [z]; rfl)
      have hlen : 0 < a.length := List.length_pos_iff.mpr hane
      refine ⟨0, a.length, hlen, by simp, ?_, ?_, fun x hx => ?_⟩
      · rw [seg_left]
        exact hs
      · rw [seg_left]
        exact .cons (Int.le_refl _) (S.empty hsa rfl)
      · rw [seg_left]
        rw [List.append_nil] at hx
        exact mem_le_sum ha0 hx
    · obtain ⟨i, j, h1, h2, h3, h4, h5⟩ := ih hb0 hb
      by_cases hab : seg b i j ≤ a.sum ∧ a ≠ []
      · have hlen : 0 < a.length := List.length_pos_iff.mpr hab.2
        refine ⟨0, a.length, hlen, by simp, ?_, ?_, fun x hx => ?_⟩
        · rw [seg_left]
          exact hs
        · rw [seg_left]
          exact .cons (Int.le_refl _) (h4.mono hab.1)
        · rw [seg_left]
          rcases List.mem_append.mp hx with hx | hx
          · exact mem_le_sum ha0 hx
          · have := h5 x hx
            omega
      · refine ⟨a.length + i, a.length + j, by omega, by rw [List.length_append]; omega, ?_, ?_, fun x hx => ?_⟩
        · rw [seg_right]
          exact h3
        · rw [seg_right]
          refine .cons ?_ h4
          by_cases hae : a = []
          · subst hae
            cases b with
            | nil => exact absurd rfl hb
            | cons y b =>
              have g1 := h5 y (List.mem_cons_self ..)
              have g2 := hb0 y (List.mem_cons_self ..)
              show (0 : Int) ≤ _
              omega
          · have : ¬ seg b i j ≤ a.sum := fun z => hab ⟨z, hae⟩
            omega
        · rw [seg_right]
          rcases List.mem_append.mp hx with hx | hx
          · have hae : a ≠ [] := fun z => by
              rw [z] at hx
              cases hx
            have : ¬ seg b i j ≤ a.sum := fun z => hab ⟨z, hae⟩
            have := mem_le_sum ha0 hx
            omega
          · exact h5 x hx
/-- what least_load returns -/
structure IsBest (ws : List Int) (c : Nat) (M : Int) : Prop where
  seg : ∃ i j, i < j ∧ j ≤ ws.length ∧ M = seg ws i j
  max : ∀ x ∈ ws, x ≤ M
  need : needN M ws ≤ c
  least : ∀ i j, i < j → j ≤ ws.length → (∀ x ∈ ws, x ≤ Tw.seg ws i j) → needN (Tw.seg ws i j) ws ≤ c → M ≤ Tw.seg ws i j
/-- no cut into c parts does better -/
theorem IsBest.le {ws : List Int} {c : Nat} {M M' : Int} (B : IsBest ws c M) (h0 : ∀ x ∈ ws, 0 ≤ x) (hne : ws ≠ []) (S : Split M' c ws) : M ≤ M' := by
  obtain ⟨i, j, h1, h2, h3, h4, h5⟩ := S.tight h0 hne
  exact Int.le_trans (B.least i j h1 h2 h5 (h4.need h0)) h3
theorem Split.more {M : Int} {c : Nat} {ws : List Int} (h : 0 ≤ M) : ∀ {d : Nat}, Split M c ws → c ≤ d → Split M d ws := by
  intro d S hcd
  obtain ⟨k, rfl⟩ : ∃ k, d = c + k := ⟨d - c, by omega⟩
  clear hcd
  induction k with
  | zero => exact S
  | succ k ih => exact .cons (a := []) (b := ws) (by simpa using h) ih
/-- a share is a cut -/
theorem split_share {ws : List Int} {M : Int} {f : Nat → Nat} : ∀ {c : Nat}, f 0 = 0 → f c = ws.length → (∀ i, i < c → f i ≤ f (i + 1)) → (∀ i, i < c → seg ws (f i) (f (i + 1)) ≤ M) → Split M c ws := by
  intro c h0 hc hm hs
  have key : ∀ n, n ≤ c → Split M n (ws.drop (f (c - n))) := by
    intro n
    induction n with
    | zero =>
      intro _
      rw [Nat.sub_zero, hc, List.drop_length]
      exact .nil
    | succ n ih =>
      intro hn
      have h1 := ih (by omega)
      have h2 := hm (c - (n + 1)) (by omega)
      have h3 := hs (c - (n + 1)) (by omega)
      rw [show c - (n + 1) + 1 = c - n by omega] at h2 h3
      have e : ws.drop (f (c - (n + 1))) = (ws.drop (f (c - (n + 1)))).take (f (c - n) - f (c - (n + 1))) ++ ws.drop (f (c - n)) := by
        have := List.take_append_drop (f (c - n) - f (c - (n + 1))) (ws.drop (f (c - (n + 1))))
        rw [List.drop_drop, show f (c - (n + 1)) + (f (c - n) - f (c - (n + 1))) = f (c - n) by omega] at this
        exact this.symm
      rw [e]
      exact .cons h3 h1
  have := key c (Nat.le_refl c)
  rw [Nat.sub_self, h0, List.drop_zero] at this
  exact this
end Tw
namespace Tw
theorem getD_app {l : List Nat} {x i : Nat} (h : i < l.length) : (l ++ [x]).getD i 0 = l.getD i 0 := by
  rw [List.getD_eq_getElem?_getD, List.getD_eq_getElem?_getD, List.getElem?_append_left h]
theorem getD_end {l : List Nat} {x i : Nat} (h : i = l.length) : (l ++ [x]).getD i 0 = x := by
  rw [h, List.getD_eq_getElem?_getD, List.getElem?_append_right (Nat.le_refl _), Nat.sub_self]
  rfl
/-- the first k ends of the best share -/
structure ShPart (ws : List Int) (M : Int) (c k : Nat) (sh : List Nat) : Prop where
  len : sh.length = k + 1
  zero : sh.getD 0 0 = 0
  step : ∀ i, i < k → sh.getD i 0 ≤ sh.getD (i + 1) 0 ∧ seg ws (sh.getD i 0) (sh.getD (i + 1) 0) ≤ M
  top : sh.getD k 0 ≤ ws.length
  need : needN M (ws.drop (sh.getD k 0)) ≤ c - k
theorem ShPart.start {ws : List Int} {M : Int} {c : Nat} (h : needN M ws ≤ c) : ShPart ws M c 0 [0] := ⟨rfl, rfl, fun i h => absurd h (Nat.not_lt_zero i), Nat.zero_le _, h⟩
theorem ShPart.next {ws : List Int} {M : Int} {c k j0 : Nat} {sh : List Nat} (S : ShPart ws M c k sh) (hk : k < c) (hb : ∀ x ∈ ws, 0 ≤ x ∧ x ≤ M) (h0 : 0 ≤ M) (hj : sh.getD k 0 + j0 ≤ ws.length) (hn : needN M (ws.drop (sh.getD k 0 + j0)) ≤ c - 1 - k)
    (hl : ∀ j, sh.getD k 0 + j ≤ ws.length → needN M (ws.drop (sh.getD k 0 + j)) ≤ c - 1 - k → j0 ≤ j) : ShPart ws M c (k + 1) (sh ++ [sh.getD k 0 + j0]) := by
  have hlen := S.len
  have e1 : (sh ++ [sh.getD k 0 + j0]).getD (k + 1) 0 = sh.getD k 0 + j0 := getD_end (by omega)
  have hm : ((ws.drop (sh.getD k 0)).take j0).sum ≤ M := by
    refine least_end (c := c - 1 - k) (fun x hx => hb x (List.mem_of_mem_drop hx)) h0 (by have := S.need; omega) fun e he hne => ?_
    rw [List.length_drop] at he
    rw [List.drop_drop] at hne
    exact hl e (by have := S.top; omega) hne
  refine ⟨by rw [List.length_append, List.length_singleton]; omega, by rw [getD_app (by omega)]; exact S.zero, fun i hi => ?_, by rw [e1]; exact hj, by rw [e1]; have : c - (k + 1) = c - 1 - k := by omega
                                                                                                                                                        rw [this]; exact hn⟩
  by_cases e : i = k
  · subst e
    rw [e1, getD_app (by omega)]
    refine ⟨Nat.le_add_right _ _, ?_⟩
    unfold seg
    rw [show sh.getD i 0 + j0 - sh.getD i 0 = j0 by omega]
    exact hm
  · rw [getD_app (by omega), getD_app (by omega)]
    exact S.step i (by omega)
theorem ShPart.exists {ws : List Int} {M : Int} {c k : Nat} {sh : List Nat} (S : ShPart ws M c k sh) (hk : k < c) (hb : ∀ x ∈ ws, 0 ≤ x ∧ x ≤ M) (h0 : 0 ≤ M) : ∃ j, sh.getD k 0 + j ≤ ws.length ∧ needN M (ws.drop (sh.getD k 0 + j)) ≤ c - 1 - k := by
  obtain ⟨e, h1, _, h3⟩ := need_end (c := c - 1 - k) (ws := ws.drop (sh.getD k 0)) (fun x hx => (hb x (List.mem_of_mem_drop hx)).2) h0 (by have := S.need; omega)
  rw [List.length_drop] at h1
  rw [List.drop_drop] at h3
  exact ⟨e, by have := S.top; omega, h3⟩
theorem mono_of {f : Nat → Nat} {c : Nat} (h : ∀ i, i < c → f i ≤ f (i + 1)) : ∀ i j, i ≤ j → j ≤ c → f i ≤ f j := by
  intro i j hij hj
  obtain ⟨d, rfl⟩ : ∃ d, j = i + d := ⟨j - i, by omega⟩
  clear hij
  induction d with
  | zero => exact Nat.le_refl _
  | succ d ih => exact Nat.le_trans (ih (by omega)) (h (i + d) (by omega))
theorem ShPart.last {ws : List Int} {M : Int} {c : Nat} {sh : List Nat} (S : ShPart ws M c c sh) : sh.getD c 0 = ws.length := by
  have h1 := S.need
  rw [Nat.sub_self] at h1
  have h2 := congrArg List.length (need_zero h1)
  rw [List.length_drop, List.length_nil] at h2
  have := S.top
  omega
end Tw
namespace Tw
/-! ### the bays that show that no share is better -/
def BaysOk (ws : List Int) (c : Nat) (M : Int) (bs : List Nat) : Prop := (∃ b, bs = [b] ∧ b < ws.length ∧ M ≤ ws.getD b 0) ∨ (bs.length = c + 1 ∧ bs.Pairwise (· < ·) ∧ (∀ b ∈ bs, b < ws.length) ∧ ∀ k, k < c → M ≤ seg ws (bs.getD k 0) (bs.getD (k + 1) 0 + 1))
theorem seg_one {ws : List Int} {i : Nat} (h : i < ws.length) : seg ws i (i + 1) = ws.getD i 0 := by
  unfold seg
  rw [show i + 1 - i = 1 by omega, List.drop_eq_getElem_cons h, List.take_succ_cons, List.take_zero, List.sum_cons, List.getD_eq_getElem?_getD, List.getElem?_eq_getElem h]
  simp
structure BayPart (ws : List Int) (c : Nat) (M : Int) (i d : Nat) (bs : List Nat) : Prop where
  len : bs.length = d + 1
  dc : d ≤ c
  zero : bs.getD 0 0 = 0
  up : bs.Pairwise (· < ·)
  top : ∀ b ∈ bs, b ≤ i
  over : ∀ k, k < d → M ≤ seg ws (bs.getD k 0) (bs.getD (k + 1) 0 + 1) ∧ bs.getD k 0 ≤ bs.getD (k + 1) 0 ∧ seg ws (bs.getD k 0) (bs.getD (k + 1) 0) < M
  cur : d < c → seg ws (bs.getD d 0) (i + 1) < M
theorem BayPart.start {ws : List Int} {c : Nat} {M : Int} (h : 0 < ws.length) (hM : ws.getD 0 0 < M) : BayPart ws c M 0 0 [0] := ⟨rfl, Nat.zero_le _, rfl, List.pairwise_singleton _ _, fun b hb => by
  rw [List.mem_singleton] at hb
  omega, fun k h => absurd h (Nat.not_lt_zero k), fun _ => by
  show seg ws 0 (0 + 1) < M
  rw [seg_one h]
  exact hM⟩
theorem last_mem {bs : List Nat} {d : Nat} (h : bs.length = d + 1) : bs.getD d 0 ∈ bs := by
  rw [List.getD_eq_getElem?_getD, List.getElem?_eq_getElem (by omega)]
  exact List.getElem_mem (by omega)
theorem BayPart.put {ws : List Int} {c : Nat} {M : Int} {i d : Nat} {bs : List Nat} (B : BayPart ws c M i d bs) (hd : d < c) (hi : i + 1 < ws.length) (hs : M ≤ seg ws (bs.getD d 0) (i + 1 + 1)) (hh : ws.getD (i + 1) 0 < M) : BayPart ws c M (i + 1) (d + 1) (bs ++ [i + 1]) := by
  have hlen := B.len
  have e1 : (bs ++ [i + 1]).getD (d + 1) 0 = i + 1 := getD_end (by omega)
  have hl := B.top _ (last_mem hlen)
  refine ⟨by rw [List.length_append, List.length_singleton]; omega, by omega, by rw [getD_app (by omega)]; exact B.zero, ?_, fun b hb => ?_, fun k hk => ?_, fun _ => ?_⟩
  · refine List.pairwise_append.mpr ⟨B.up, List.pairwise_singleton _ _, fun x hx y hy => ?_⟩
    rw [List.mem_singleton] at hy
    have := B.top x hx
    omega
  · rcases List.mem_append.mp hb with hb | hb
    · have := B.top b hb
      omega
    · rw [List.mem_singleton] at hb
      omega
  · by_cases e : k = d
    · subst e
      rw [e1, getD_app (by omega)]
      exact ⟨hs, by omega, B.cur hd⟩
    · rw [getD_app (by omega), getD_app (by omega)]
      exact B.over k (by omega)
  · rw [e1, seg_one hi]
    exact hh
theorem BayPart.skip {ws : List Int} {c : Nat} {M : Int} {i d : Nat} {bs : List Nat} (B : BayPart ws c M i d bs) (hs : d < c → seg ws (bs.getD d 0) (i + 1 + 1) < M) : BayPart ws c M (i + 1) d bs :=
  ⟨B.len, B.dc, B.zero, B.up, fun b hb => by have := B.top b hb; omega, B.over, hs⟩
theorem BayPart.fin {ws : List Int} {c d : Nat} {M : Int} {bs : List Nat} (P : BayPart ws c M (ws.length - 1) d bs) (B : IsBest ws c M) (h0 : ∀ x ∈ ws, 0 ≤ x) (hne : ws ≠ []) : BaysOk ws c M bs := by
  have hpos : 0 < ws.length := List.length_pos_iff.mpr hne
  have hlen := P.len
  by_cases e : d = c
  · subst e
    exact .inr ⟨hlen, P.up, fun b hb => by have := P.top b hb; omega, fun k hk => (P.over k hk).1⟩
  · exfalso
    have hdc : d < c := by have := P.dc; omega
    have hc := P.cur hdc
    rw [show ws.length - 1 + 1 = ws.length by omega] at hc
    have S : Split (M - 1) (d + 1) ws := by
      refine split_share (f := fun i => if i ≤ d then bs.getD i 0 else ws.length) ?_ ?_ (fun i hi => ?_) (fun i hi => ?_)
      · show (if 0 ≤ d then bs.getD 0 0 else ws.length) = 0
        rw [if_pos (Nat.zero_le d)]
        exact P.zero
      · show (if d + 1 ≤ d then bs.getD (d + 1) 0 else ws.length) = ws.length
        rw [if_neg (by omega)]
      · show (if i ≤ d then bs.getD i 0 else ws.length) ≤ (if i + 1 ≤ d then bs.getD (i + 1) 0 else ws.length)
        rw [if_pos (by omega)]
        by_cases q : i + 1 ≤ d
        · rw [if_pos q]
          exact (P.over i (by omega)).2.1
        · rw [if_neg q]
          have : i = d := by omega
          subst this
          have := P.top _ (last_mem hlen)
          omega
      · show seg ws (if i ≤ d then bs.getD i 0 else ws.length) (if i + 1 ≤ d then bs.getD (i + 1) 0 else ws.length) ≤ M - 1
        rw [if_pos (by omega)]
        by_cases q : i + 1 ≤ d
        · rw [if_pos q]
          have := (P.over i (by omega)).2.2
          omega
        · rw [if_neg q]
          have : i = d := by omega
          subst this
          omega
    have hM : 0 ≤ M - 1 := by
      have : 0 ≤ seg ws (bs.getD d 0) ws.length := sum_nonneg fun x hx => h0 x (List.mem_of_mem_drop (List.mem_of_mem_take hx))
      omega
    have := B.le h0 hne (S.more hM (by omega : d + 1 ≤ c))
    omega
/-- the greatest load of the best share is the least one -/
theorem best_eq {ws : List Int} {c : Nat} {M m : Int} {f : Nat → Nat} (B : IsBest ws c M) (h0 : ∀ x ∈ ws, 0 ≤ x) (hne : ws ≠ []) (f0 : f 0 = 0) (fc : f c = ws.length) (hm : ∀ i, i < c → f i ≤ f (i + 1)) (hM : ∀ i, i < c → seg ws (f i) (f (i + 1)) ≤ M)
    (h1 : ∃ i, i < c ∧ m = seg ws (f i) (f (i + 1))) (h2 : ∀ i, i < c → seg ws (f i) (f (i + 1)) ≤ m) : m = M := by
  obtain ⟨i, hi, rfl⟩ := h1
  exact Int.le_antisymm (hM i hi) (B.le h0 hne (split_share f0 fc hm h2))
end Tw
namespace Tw
/-! ### all shares, listed -/
structure RowOk (N k : Nat) (r : List Nat) : Prop where
  len : r.length = k + 1
  zero : r.getD 0 0 = 0
  step : ∀ i, i < k → r.getD i 0 ≤ r.getD (i + 1) 0
  top : r.getD k 0 ≤ N
def extN (N k : Nat) (r : List Nat) : List (List Nat) := (List.range (N + 1 - r.getD k 0)).map fun j => r ++ [r.getD k 0 + j]
def shsN (N : Nat) : Nat → List (List Nat)
  | 0 => [[0]]
  | k + 1 => (shsN N k).flatMap (extN N k)
theorem RowOk.ext {N k j : Nat} {r : List Nat} (R : RowOk N k r) (hj : r.getD k 0 + j ≤ N) : RowOk N (k + 1) (r ++ [r.getD k 0 + j]) := by
  have hl := R.len
  have e1 : (r ++ [r.getD k 0 + j]).getD (k + 1) 0 = r.getD k 0 + j := getD_end (by omega)
  refine ⟨by rw [List.length_append, List.length_singleton]; omega, by rw [getD_app (by omega)]; exact R.zero, fun i hi => ?_, by rw [e1]; exact hj⟩
  by_cases e : i = k
  · subst e
    rw [e1, getD_app (by omega)]
    exact Nat.le_add_right _ _
  · rw [getD_app (by omega), getD_app (by omega)]
    exact R.step i (by omega)
theorem shsN_ok {N : Nat} : ∀ {k : Nat} {r : List Nat}, r ∈ shsN N k → RowOk N k r
  | 0, r, h => by
    obtain rfl := List.mem_singleton.mp h
    exact ⟨rfl, rfl, fun i h => absurd h (Nat.not_lt_zero i), Nat.zero_le _⟩
  | k + 1, r, h => by
    obtain ⟨r0, h0, h1⟩ := List.mem_flatMap.mp h
    obtain ⟨j, hj, rfl⟩ := List.mem_map.mp h1
    have := List.mem_range.mp hj
    exact (shsN_ok h0).ext (by omega)
theorem shsN_all {N : Nat} : ∀ {k : Nat} {r : List Nat}, RowOk N k r → r ∈ shsN N k
  | 0, r, R => by
    have hl := R.len
    match r, hl with
    | [x], _ =>
      have : x = 0 := R.zero
      subst this
      exact List.mem_singleton.mpr rfl
  | k + 1, r, R => by
    have hl := R.len
    have hne : r ≠ [] := fun z => by
      rw [z] at hl
      cases hl
    obtain ⟨r0, x, rfl⟩ : ∃ r0 x, r = r0 ++ [x] := ⟨r.dropLast, r.getLast hne, (List.dropLast_concat_getLast hne).symm⟩
    have hl0 : r0.length = k + 1 := by
      rw [List.length_append, List.length_singleton] at hl
      omega
    have ex : (r0 ++ [x]).getD (k + 1) 0 = x := getD_end (by omega)
    have ht := R.top
    rw [ex] at ht
    have hs := R.step k (by omega)
    rw [ex, getD_app (by omega)] at hs
    have R0 : RowOk N k r0 := ⟨hl0, by have := R.zero; rw [getD_app (by omega)] at this; exact this, fun i hi => by
      have := R.step i (by omega)
      rw [getD_app (by omega), getD_app (by omega)] at this
      exact this, by omega⟩
    refine List.mem_flatMap.mpr ⟨r0, shsN_all R0, List.mem_map.mpr ⟨x - r0.getD k 0, List.mem_range.mpr (by omega), ?_⟩⟩
    rw [show r0.getD k 0 + (x - r0.getD k 0) = x by omega]
theorem flat_le {α β : Type} {f : α → List β} {b : Nat} (hf : ∀ a, (f a).length ≤ b) : ∀ l : List α, (l.flatMap f).length ≤ b * l.length
  | [] => Nat.zero_le _
  | a :: l => by
    have h1 := hf a
    have h2 := flat_le hf l
    rw [List.flatMap_cons, List.length_append, List.length_cons, Nat.mul_succ]
    omega
theorem shsN_len {N : Nat} (hN : N ≤ 12) : ∀ k, (shsN N k).length ≤ 13 ^ k
  | 0 => Nat.le_refl _
  | k + 1 => by
    have h1 := flat_le (f := extN N k) (b := 13) (fun r => by unfold extN; rw [List.length_map, List.length_range]; omega) (shsN N k)
    have h2 := shsN_len hN k
    rw [Nat.pow_succ, Nat.mul_comm]
    exact Nat.le_trans h1 (Nat.mul_le_mul_left 13 h2)
end Tw

namespace Tw
open PySem PySem.Spec PyProof.Rows L2
/-! ### ranges in names from any place, a range from its end, truth of a list -/
def rRange2 : List V → Hp → VK → Prop := fun vs H Q => ∃ i j, vs = [V.int i, V.int j] ∧ ∀ p, H p = none → Q (.ref p) (upd H p (.rng i j))
theorem callRange2 {X : Cx} : CallR X (.type "range") rRange2 := cr_range2
theorem o_range2 {H : Hp} {Q : VK} {i j : Int} (h : Fresh H (.rng i j) Q) : rRange2 [.int i, .int j] H Q := ⟨i, j, rfl, fresh_of h⟩
def kLc2V (g : TG) (tt : TT) (wi1 : TI) (g1 : TG) (tt1 : TT) (te : TE) (vs vs1 : List Nat) (σ : L2.St) (Q : VK) : VK := fun x H1 => ∃ a lo hi, x = .ref a ∧ H1 a = some (.rng lo hi) ∧ (-(2 ^ 62) ≤ lo ∧ lo < 2 ^ 62 ∧ -(2 ^ 62) ≤ hi ∧ hi < 2 ^ 62) ∧ Comp2W (Itr lo (hi - lo).toNat) g tt wi1 g1 tt1 te vs vs1 σ Q H1
def kForV (g : TG) (tb : TS) (D : Ends) (σ : L2.St) : Int → Int → Hp → Prop := fun a b H1 => -(2 ^ 62) ≤ a ∧ a < 2 ^ 62 ∧ -(2 ^ 62) ≤ b ∧ b < 2 ^ 62 ∧ LoopW (Itc (a + (((b - a).toNat : Nat) : Int) - 1) (-1) (b - a).toNat) g tb D σ H1
section
variable {K : PySem.W.Frag} {σ : L2.St} {H : Hp} {Q : VK} {te ta : TE} {t t1 : TT} {ts : TA} {g g1 : TG} {wi1 : TI} {s1 : TS} {D : Ends}
theorem k_lcV2 {a : Addr} {lo hi : Int} {ws : List Nat} (ha : H a = some (.rng lo hi)) (hj : -1000000 ≤ lo ∧ lo ≤ 1000000 ∧ -1000000 ≤ hi ∧ hi ≤ 1000000) (h : ∀ dd, H dd = none → ∃ Pv : Nat → Hp → Prop, Pv 0 (upd H dd (.lst [])) ∧
    (∀ (i : Nat) H, lo + (i : Int) < hi → Pv i H → g (.int (lo + (i : Int))) (wipe σ ws) H (kTurn t te dd ws σ (Pv (i + 1)))) ∧ ∀ H, Pv (hi - lo).toNat H → Q (.ref dd) H) : kLcV g t te ws σ Q (.ref a) H :=
  ⟨a, lo, hi, rfl, ha, by omega, fun dd hd => by
    obtain ⟨Pv, h0, hs, he⟩ := h dd hd
    exact lc_range (lo := lo) (n := (hi - lo).toNat) Pv h0 (fun i H hi p => hs i H (by omega) p) he⟩
theorem w_lc2V {ws ws1 : List Nat} (h : ta σ H (kLc2V g t wi1 g1 t1 te ws ws1 σ Q)) : tLc2 (iRngV ta) g t wi1 g1 t1 te ws ws1 σ H Q := h
theorem k_lc2V {a : Addr} {lo hi : Int} {ws ws1 : List Nat} (ha : H a = some (.rng lo hi)) (hj : -1000000 ≤ lo ∧ lo ≤ 1000000 ∧ -1000000 ≤ hi ∧ hi ≤ 1000000) (h : ∀ dd, H dd = none → ∃ Pv : Nat → Hp → Prop, Pv 0 (upd H dd (.lst [])) ∧
    (∀ (i : Nat) H, lo + (i : Int) < hi → Pv i H → g (.int (lo + (i : Int))) (wipe σ ws) H (kTurn2 t wi1 g1 t1 te ws ws1 dd σ (Pv (i + 1)))) ∧ ∀ H, Pv (hi - lo).toNat H → Q (.ref dd) H) : kLc2V g t wi1 g1 t1 te ws ws1 σ Q (.ref a) H := by
  obtain ⟨_, _, e, _, z⟩ := k_lc2R2 (g := g) (t := t) (wi1 := wi1) (g1 := g1) (t1 := t1) (te := te) (σ := σ) (Q := Q) (ws := ws) (ws1 := ws1) hj h
  obtain ⟨e1, e2⟩ := List.cons.inj e
  obtain ⟨e2, _⟩ := List.cons.inj e2
  cases e1
  cases e2
  exact ⟨a, lo, hi, rfl, ha, by omega, z⟩
theorem k_lc2V0 {a : Addr} {hi : Int} {ws ws1 : List Nat} (ha : H a = some (.rng 0 hi)) (hj : -1000000 ≤ hi ∧ hi ≤ 1000000) (h : ∀ dd, H dd = none → ∃ Pv : Nat → Hp → Prop, Pv 0 (upd H dd (.lst [])) ∧
    (∀ (i : Nat) H, (i : Int) < hi → Pv i H → g (.int (i : Int)) (wipe σ ws) H (kTurn2 t wi1 g1 t1 te ws ws1 dd σ (Pv (i + 1)))) ∧ ∀ H, Pv hi.toNat H → Q (.ref dd) H) : kLc2V g t wi1 g1 t1 te ws ws1 σ Q (.ref a) H := k_lc2V ha (by omega) fun dd hd => by
  obtain ⟨Pv, h0, hs, he⟩ := h dd hd
  refine ⟨Pv, h0, fun i H hi p => ?_, by rw [Int.sub_zero]; exact he⟩
  rw [Int.zero_add] at hi ⊢
  exact hs i H hi p
theorem w_forV (h : te σ H (kRg1 (kForV g s1 D σ))) : tFor (iRevR (tRg1 te)) g s1 D σ H := h
theorem k_forV {j : Int} (Pv : Nat → L2.St → Hp → Prop) (hj : 0 ≤ j ∧ j ≤ 1000000) (h0 : Pv 0 σ H)
    (hs : ∀ (k : Nat) σ H, (k : Int) < j → Pv k σ H → g (.int (j - 1 - (k : Int))) σ H (s1 { D with nx := Pv (k + 1), ct := Pv (k + 1), bk := D.nx })) (hd : ∀ σ H, Pv j.toNat σ H → D.nx σ H) : kForV g s1 D σ 0 j H := by
  refine ⟨by decide, by decide, by omega, by omega, ?_⟩
  rw [Int.sub_zero]
  refine for_rangeC Pv h0 (fun k σ H hk p => ?_) hd
  rw [show (0 : Int) + ((j.toNat : Nat) : Int) - 1 + (k : Int) * -1 = j - 1 - (k : Int) by omega]
  exact hs k σ H (by omega) p
theorem k_truL {p : Addr} {xs : List V} {QB : Bool → Hp → Prop} (hs : SqL K H p xs) (h : QB (!xs.isEmpty) H) : ∃ k, TruV K (.ref p) H k ∧ QB k H := ⟨_, .inl ⟨xs, hs, rfl⟩, h⟩
end
theorem cut_seg {ws : List Int} {i j : Nat} (hij : i ≤ j) (hj : j ≤ ws.length) : ((ws.drop i).take (j - i)).sum = seg ws i j := rfl
theorem slT_from {K : PySem.W.Frag} {H : Hp} {Q : VK} {p : Addr} {ws : List Int} {k : Nat} (hs : SqT K H p (ws.map V.int)) (hk : k ≤ ws.length) (h : ∀ q H', Same H H' → SqT K H' q ((ws.drop k).map V.int) → Q (.ref q) H') : rSl K (.ref p) (some ((k : Nat) : Int)) none H Q := o_slT hs fun q H' e hq => h q H' e (by
  have ec : cutV (ws.map V.int) (some ((k : Nat) : Int)) none = (ws.drop k).map V.int := by
    unfold cutV
    rw [HT.sIx_none, HT.sIx_nat, List.length_map, Nat.min_eq_left hk, List.map_drop, List.take_of_length_le]
    rw [List.length_drop, List.length_map]
    exact Nat.le_refl _
  rw [← ec]
  exact hq)
end Tw
namespace Tw
theorem ShPart.ok {ws : List Int} {M : Int} {c : Nat} {sh : List Nat} (S : ShPart ws M c c sh) : ShOk sh c ws.length := ⟨S.len, S.zero, S.last, mono_of fun i hi => (S.step i hi).1⟩
end Tw

namespace Tw
open PySem PySem.Spec PyProof.Rows L2
/-! ### < of two pairs (int, tuple of ints), beside < of ints -/
theorem dp_ints' {K : PySem.W.Frag} {H : Hp} : ∀ ns : List Int, DpAll K H (ns.map V.int) (ns.map PyData.int)
  | [] => .nil
  | n :: ns => .cons (.int n) (dp_ints' ns)
theorem ints_lay' : ∀ ns : List Int, PyData.canLayAll0 (ns.map PyData.int) = true ∧ PyData.depthAll (ns.map PyData.int) ≤ 1
  | [] => ⟨rfl, Nat.zero_le _⟩
  | n :: ns => by
    obtain ⟨h1, h2⟩ := ints_lay' ns
    constructor
    · show (PyData.canLay0 (.int n) && PyData.canLayAll0 (ns.map PyData.int)) = true
      rw [h1]
      rfl
    · show max (PyData.depth (.int n)) (PyData.depthAll (ns.map PyData.int)) ≤ 1
      exact Nat.max_le.mpr ⟨Nat.zero_le _, h2⟩
theorem lexI_asym' : ∀ xs ys : List Int, HT.lexLt xs ys = true → HT.lexLt ys xs = false
  | [], [], h => by cases h
  | [], _ :: _, _ => rfl
  | _ :: _, [], h => by cases h
  | x :: xs, y :: ys, h => by
    rw [HT.lexLt_cons] at h ⊢
    by_cases c : y = x
    · rw [if_pos c.symm] at h
      rw [if_pos c]
      exact lexI_asym' xs ys h
    · rw [if_neg (fun z => c z.symm)] at h
      have := of_decide_eq_true h
      rw [if_neg c]
      exact decide_eq_false (by omega)
theorem lexI_tr' : ∀ xs ys zs : List Int, HT.lexLt ys xs = false → HT.lexLt zs ys = false → HT.lexLt zs xs = false
  | [], _, [], _, _ => rfl
  | [], _, _ :: _, _, _ => rfl
  | _ :: _, [], _, h, _ => by cases h
  | _ :: _, _ :: _, [], _, h => by cases h
  | x :: xs, y :: ys, z :: zs, h1, h2 => by
    rw [HT.lexLt_cons] at h1 h2 ⊢
    by_cases c1 : y = x
    · by_cases c2 : z = y
      · rw [if_pos c1] at h1
        rw [if_pos c2] at h2
        rw [if_pos (c2.trans c1)]
        exact lexI_tr' xs ys zs h1 h2
      · rw [if_neg c2] at h2
        have := of_decide_eq_false h2
        rw [if_neg (by omega)]
        exact decide_eq_false (by omega)
    · rw [if_neg c1] at h1
      have := of_decide_eq_false h1
      by_cases c2 : z = y
      · rw [if_neg (by omega)]
        exact decide_eq_false (by omega)
      · rw [if_neg c2] at h2
        have := of_decide_eq_false h2
        rw [if_neg (by omega)]
        exact decide_eq_false (by omega)
theorem lexI_eq' : ∀ {xs ys : List Int}, HT.lexLt xs ys = false → HT.lexLt ys xs = false → xs = ys
  | [], [], _, _ => rfl
  | [], _ :: _, h, _ => by cases h
  | _ :: _, [], _, h => by cases h
  | x :: xs, y :: ys, h1, h2 => by
    rw [HT.lexLt_cons] at h1 h2
    by_cases c : x = y
    · rw [if_pos c] at h1
      rw [if_pos c.symm] at h2
      rw [c, lexI_eq' h1 h2]
    · rw [if_neg c] at h1
      rw [if_neg (fun z => c z.symm)] at h2
      have a := of_decide_eq_false h1
      have b := of_decide_eq_false h2
      omega
theorem tup_reads {h : Heap} {a : Addr} {its : List Value} {ns : List Int} (p : IsTup h a its.toArray) (i : IntsAre its ns) : ∃ o n, h.get? a = some o ∧ o.cls = .type "tuple" ∧ o.data = .seq its.toArray n := by
  obtain ⟨o, ho, hc, n, hd⟩ := p
  exact ⟨o, n, ho, hc, hd⟩
def rLtP (K : PySem.W.Frag) : R2 := fun x y H Q => ∃ (a b s t : Addr) (i j : Int) (ns ms : List Int), x = .ref a ∧ y = .ref b ∧ SqT K H a [.int i, .ref s] ∧ SqT K H b [.int j, .ref t] ∧ SqT K H s (ns.map V.int) ∧ SqT K H t (ms.map V.int) ∧ ns.length ≤ 1000 ∧ ms.length ≤ 1000 ∧ Q (.bl (HT.lexLt (i :: ns) (j :: ms))) H
theorem ints_eqv : ∀ ns ms : List Int, PyData.eqv (.tuple (ns.map PyData.int)) (.tuple (ms.map PyData.int)) = decide (ns = ms) := by
  have key : ∀ ns ms : List Int, PyData.eqvAll (ns.map PyData.int) (ms.map PyData.int) = decide (ns = ms) := by
    intro ns
    induction ns with
    | nil => intro ms; cases ms <;> rfl
    | cons n ns ih =>
      intro ms
      cases ms with
      | nil => rfl
      | cons m ms =>
        show (PyData.eqv (.int n) (.int m) && PyData.eqvAll (ns.map PyData.int) (ms.map PyData.int)) = _
        rw [ih]
        have e : PyData.eqv (.int n) (.int m) = decide (n = m) := by
          show (n == m) = _
          rw [Bool.eq_iff_iff, beq_iff_eq, decide_eq_true_iff]
        rw [e, ← Bool.decide_and, decide_eq_decide, List.cons.injEq]
  intro ns ms
  exact key ns ms
theorem op_ltP {X : Cx} (hu : X.A.units + 64 < cLine) : OpR X (compareOp .Lt) (rLtP X.K) := by
  intro pins s σ H x y v u Q I rx ry h
  obtain ⟨a, b, sa, tb, i, j, ns, ms, rfl, rfl, ha, hb, hs, ht, ln, lm, q⟩ := h
  cases rx
  cases ry
  obtain ⟨its, r1, p1, _⟩ := I.tuple ha
  obtain ⟨its2, r2, p2, _⟩ := I.tuple hb
  obtain ⟨u1, u2, rfl, ru1, ru2⟩ := vals2 r1
  obtain ⟨w1, w2, rfl, rw1, rw2⟩ := vals2 r2
  obtain ⟨t1, rfl⟩ := ru1
  obtain ⟨t2, rfl⟩ := rw1
  obtain rfl : u2 = .ref sa := ru2
  obtain rfl : w2 = .ref tb := rw2
  obtain ⟨its3, r3, p3, _⟩ := I.tuple hs
  obtain ⟨its4, r4, p4, _⟩ := I.tuple ht
  have i3 : IntsAre its3 ns := Vals.ints r3
  have i4 : IntsAre its4 ms := Vals.ints r4
  obtain ⟨as, q1⟩ := Dp.reads I (.tuple (ns.map PyData.int)) (.ref sa) (.ref sa) (.tup hs (dp_ints' ns)) rfl
  obtain ⟨bs, q2⟩ := Dp.reads I (.tuple (ms.map PyData.int)) (.ref tb) (.ref tb) (.tup ht (dp_ints' ms)) rfl
  have R := Ob.RcOp.tuples_lt (A := X.A) (s := s) (e := fun k => if k = 0 then decide (i = j) else decide (ns = ms)) (r := fun k => if k = 0 then decide (i < j) else HT.lexLt ns ms) p1 p2 (by omega) (fun k h1 h2 => by
    match k, h1, h2 with
    | 0, _, _ =>
      have z : (i == j) = decide (i = j) := by rw [Bool.eq_iff_iff, beq_iff_eq, decide_eq_true_iff]
      show SeqAt.EqAt X.A.in1 s (.int i t1) (.int j t2) (decide (i = j))
      rw [← z]
      exact SeqAt.EqAt.int_int _ _ _ _
    | 1, _, _ =>
      show SeqAt.EqAt X.A.in1 s (.ref sa) (.ref tb) (decide (ns = ms))
      rw [← ints_eqv]
      have l1 := (ints_lay' ns)
      have l2 := (ints_lay' ms)
      refine SeqAt.eqAt_reads _ _ _ _ _ _ _ _ q1 q2 l1.1 l2.1 ?_
      have h1 : PyData.depth (.tuple (ns.map PyData.int)) ≤ 2 := Nat.succ_le_succ l1.2
      simp only [Around.in1_units]
      omega
    | k + 2, h1, _ => exact absurd h1 (by simp)) (fun k h1 h2 _ => by
    match k, h1, h2 with
    | 0, _, _ => exact Ob.RcOp.lt_int _ _ _ _
    | 1, _, _ => exact fun prog w E Q hq => HT.lt_tupInts p3 p4 i3 i4 (by simp only [Around.in1_units]; omega) hq
    | k + 2, h1, _ => exact absurd h1 (by simp))
  have e : Ob.lexAt (fun k => if k = 0 then decide (i = j) else decide (ns = ms)) (fun k => if k = 0 then decide (i < j) else HT.lexLt ns ms) (decide ((2 : Nat) < 2)) 0 (min 2 2) = HT.lexLt (i :: ns) (j :: ms) := by
    show (if (if (0 : Nat) = 0 then decide (i = j) else decide (ns = ms)) = true then (if (if (1 : Nat) = 0 then decide (i = j) else decide (ns = ms)) = true then decide ((2 : Nat) < 2) else (if (1 : Nat) = 0 then decide (i < j) else HT.lexLt ns ms)) else (if (0 : Nat) = 0 then decide (i < j) else HT.lexLt ns ms)) = _
    rw [HT.lexLt_cons]
    by_cases c : i = j
    · rw [if_pos (by rw [if_pos rfl, decide_eq_true c]), if_pos c]
      by_cases d : ns = ms
      · rw [if_pos (by rw [if_neg (by decide), decide_eq_true d]), d]
        cases hh : HT.lexLt ms ms with
        | false => rfl
        | true => have := lexI_asym' ms ms hh; rw [hh] at this; exact absurd this (by decide)
      · rw [if_neg (by rw [if_neg (by decide), decide_eq_false d]; decide), if_neg (by decide)]
    · rw [if_neg (by rw [if_pos rfl, decide_eq_false c]; decide), if_neg c, if_pos rfl]
  have R' := R X.prog X.w X.xe (EP X pins σ Q)
  have z : wpAny (model X.prog X.w) X.A (compareOp .Lt (.ref a) (.ref b)) (EP X pins σ Q) X.xe s := R' ⟨.bl _, H, I, rfl, by
    have e2 := e
    show Q (.bl (Ob.lexAt _ _ (decide ((2 : Nat) < 2)) 0 (min 2 2))) H
    rw [e2]
    exact q⟩
  exact z
def rLtG (K : PySem.W.Frag) : R2 := orR rLt (rLtP K)
theorem opLtG {X : Cx} {K : PySem.W.Frag} (e : X.K = K) (hu : X.A.units + 64 < cLine) : OpR X (compareOp .Lt) (rLtG K) := e ▸ or2 op_lt (op_ltP hu)
section
variable {K : PySem.W.Frag} {H : Hp} {Q : VK}
theorem o_ltG {a b : Int} (h : Q (.bl (decide (a < b))) H) : rLtG K (.int a) (.int b) H Q := .inl ⟨a, b, rfl, rfl, h⟩
theorem o_ltP {a b s t : Addr} {i j : Int} {ns ms : List Int} (ha : SqT K H a [.int i, .ref s]) (hb : SqT K H b [.int j, .ref t]) (hs : SqT K H s (ns.map V.int)) (ht : SqT K H t (ms.map V.int)) (ln : ns.length ≤ 1000) (lm : ms.length ≤ 1000) (h : Q (.bl (HT.lexLt (i :: ns) (j :: ms))) H) : rLtG K (.ref a) (.ref b) H Q :=
  .inr ⟨a, b, s, t, i, j, ns, ms, rfl, rfl, ha, hb, hs, ht, ln, lm, h⟩
end
end Tw

namespace Tw
open PySem PySem.Spec PyProof.Rows L2
local macro_rules | `(tactic| walk_at "sqL") => `(tactic| first | assumption | exact SqL.of (by assumption) | exact L2.Same.seq (by assumption) (by first | assumption | exact SqL.of (by assumption)))
local macro_rules | `(tactic| walk_at "sqT") => `(tactic| first | assumption | exact SqT.of (by assumption) | exact Tw.Same.seqT (by assumption) (by first | assumption | exact SqT.of (by assumption)))
local macro_rules | `(tactic| walk_at "at") => `(tactic| first | assumption | exact at_lit 0 rfl rfl | exact at_lit 1 rfl rfl | exact at_lit 2 rfl rfl | exact at_lit 3 rfl rfl | exact at_lit 4 rfl rfl | exact at_lit 5 rfl rfl | exact atI_nat (by assumption) | exact at_m1 rfl)
local macro_rules | `(tactic| walk_at "ty") => `(tactic| first | exact .base .non | exact .base (.int _) | exact .base (.bl _) | exact .base (.str _) | exact ty_T (by walk_at "sqT") | exact ty_L (by walk_at "sqL"))
local macro_rules | `(tactic| walk_at "S1") => `(tactic| (with_reducible first
  | refine w_var rfl ?_ | refine w_c ?_ | refine w_op ?_ | refine w_op1 ?_ | refine w_op2 ?_ | refine w_un ?_ | refine w_un1 ?_ | refine w_cb ?_ | refine w_cb1 ?_ | refine w_nil ?_ | refine w_cons ?_ | refine w_cons1 ?_ | refine w_cons2 ?_
  | refine w_tup ?_ | refine w_lst ?_ | refine w_call ?_ | refine w_callN ?_ | refine w_callN1 ?_ | refine w_if ?_ | refine w_andV ?_ | refine w_orV ?_ | refine w_notV ?_ | refine k_notV ?_ | refine w_isN ?_ | refine w_notN ?_
  | refine k_isNn ?_ | refine k_isNi ?_ | refine k_isNr ?_ | refine k_isNs ?_ | refine k_isNb ?_ | refine k_notNn ?_ | refine k_notNi ?_ | refine k_notNr ?_ | refine k_notNs ?_
  | refine w_sl ?_ | refine w_sl1 ?_ | refine w_sl2 ?_ | refine w_sl3 ?_ | refine w_part ?_ | refine k_part ?_ | refine w_nopart ?_ | refine w_bm ?_ | refine w_bm2 ?_ | refine w_test ?_ | refine w_tB ?_ | refine k_test ?_ | refine w_and ?_ | refine w_or ?_ | refine w_not ?_ | refine k_notT ?_ | refine k_notF ?_ | refine k_not ?_
  | refine k_ifT ?_ | refine k_ifF ?_ | refine k_andVT ?_ | refine k_andVF ?_ | refine k_orVT ?_ | refine k_orVF ?_ | refine k_andT ?_ | refine k_andF ?_ | refine k_orT ?_ | refine k_orF ?_ | refine k_ifST ?_ | refine k_ifSF ?_ | refine k_tstT ?_ | refine k_tstF ?_
  | refine w_seq ?_ | refine w_asg ?_ | refine k_name ?_ | refine k_asg ?_ | refine g_name ?_ | refine g_cons ?_ | refine k_gs ?_ | refine g_nil ?_ | refine g_sub ?_ | refine k_sub1 ?_ | refine w_drop ?_ | refine k_drop ?_ | refine w_ret ?_ | refine w_retN ?_ | refine w_next ?_ | refine w_aug rfl ?_ | refine k_aug ?_
  | refine w_chain ?_ | refine w_chain1 ?_ | refine w_chain2 ?_ | refine w_lrg1 ?_ | refine w_lrg2 ?_ | refine k_rg1 ?_ | refine k_rg2 ?_ | refine k_rg3 ?_
  | refine o_addI ?_ | refine o_mod (by first | assumption | omega | decide) ?_ | refine o_div (by first | assumption | omega | decide) (by first | assumption | omega | decide) ?_ | refine o_I0 ?_ | refine o_lt ?_ | refine o_eqI ?_ | refine o_eqB ?_ | refine o_eqS ?_ | refine o_neI ?_ | refine o_neS ?_ | refine o_neg ?_
  | refine o_mulR (by first | decide | omega) ?_ | refine o_mulL (by first | decide | omega) ?_
  | refine o_eqNS ?_ | refine o_abs ?_ | refine o_int1 ?_ | refine o_max2 ?_ | refine o_min2 ?_ | refine o_neTT ?_ | refine o_neFF ?_ | refine o_neTF ?_ | refine o_neFT ?_ | refine o_neB ?_
  | refine w_forR1 ?_ | refine w_forR2 ?_ | refine w_lcR1 ?_ | refine w_lcR2 ?_ | refine k_yes ?_))
local macro_rules | `(tactic| walk_at "S2") => `(tactic| first
  | (with_reducible refine' o_ixL ?a ?b ?_; (case a => walk_at "sqL"); (case b => walk_at "at"))
  | (with_reducible refine' o_ixT ?a ?b ?_; (case a => walk_at "sqT"); (case b => walk_at "at"))
  | (with_reducible refine' o_lenL ?a ?_; (case a => walk_at "sqL"))
  | (with_reducible refine' o_lenT ?a ?_; (case a => walk_at "sqT"))
  | (with_reducible refine' o_isiF ?a ?b ?_; (case a => walk_at "ty"); (case b => decide +kernel))
  | (with_reducible refine' o_isiT ?a ?b ?_; (case a => walk_at "ty"); (case b => decide +kernel))
  | (with_reducible refine' k_call ?_)
  | (refine k_turn rfl ?_)
  | (refine k_callN rfl rfl ?_) | (refine k_callD ?_))
local macro_rules | `(tactic| walk_at "S") => `(tactic| first | walk_at "S1" | walk_at "S2" | (dsimp only; first | walk_at "S1" | walk_at "S2"))
local macro_rules | `(tactic| walk_at "R") => `(tactic| ((repeat (walk_at "S")); (try dsimp only [List.set_cons_zero, List.set_cons_succ]); (try dsimp only)))
local macro_rules | `(tactic| walk_at "RR") => `(tactic| ((repeat (first | walk_at "S" | (with_reducible refine w_ifS ?_))); (try dsimp only [List.set_cons_zero, List.set_cons_succ]); (try dsimp only)))

def topS (i : Nat) : Stmt := PySem.Challenge.pw_tidewarden_k17_whole_best_shares.main.body.getD i (.Pass ⟨0, 0, 0, 0⟩)
abbrev s__law_same : Stmt := topS 5
abbrev s__law_pool : Stmt := topS 6
abbrev s__law_spread : Stmt := topS 7
abbrev s__law_draw : Stmt := topS 8
abbrev s_cranes_needed : Stmt := topS 1
abbrev s_least_load : Stmt := topS 2
abbrev s_best_share : Stmt := topS 3
abbrev s__law_works : Stmt := topS 9
abbrev s__law_loads : Stmt := topS 10
abbrev s__law_shares : Stmt := topS 11
abbrev s_law : Stmt := topS 12
structure Txt (K : PySem.W.Frag) (mg : Str → Option Value) : Prop where
  z_len : mg "len" = none
  z_isinstance : mg "isinstance" = none
  z_list : mg "list" = none
  z_tuple : mg "tuple" = none
  z_range : mg "range" = none
  z_bool : mg "bool" = none
  z_int : mg "int" = none
  z_str : mg "str" = none
  z_sum : mg "sum" = none
  z_max : mg "max" = none
  z_min : mg "min" = none
  z_reversed : mg "reversed" = none
local macro_rules | `(tactic| walk_at "S1") => `(tactic| (with_reducible refine o_ltG ?_))
structure WsT (K : PySem.W.Frag) (H : Hp) (w : Addr) (ws : List Int) : Prop where
  t : SqT K H w (ws.map V.int)
  l1 : 1 ≤ ws.length
  l12 : ws.length ≤ 12
  b : ∀ x ∈ ws, 0 ≤ x ∧ x ≤ 100
theorem WsT.same {K : PySem.W.Frag} {H H' : Hp} {w : Addr} {ws : List Int} (h : WsT K H w ws) (e : Same H H') : WsT K H' w ws := ⟨Same.seqT e h.t, h.l1, h.l12, h.b⟩
theorem WsT.ne {K : PySem.W.Frag} {H : Hp} {w : Addr} {ws : List Int} (h : WsT K H w ws) : ws ≠ [] := fun z => by
  have := h.l1
  rw [z] at this
  exact absurd this (by decide)
def sp_cranes_needed (K : PySem.W.Frag) : Sp := fun vs H Q _ => ∃ (w : Addr) (ws : List Int) (M : Int), vs = [.ref w, .int M] ∧ SqT K H w (ws.map V.int) ∧ Q (.int (needN M ws : Nat)) H
def sp_least_load (K : PySem.W.Frag) : Sp := fun vs H Q _ => ∃ (w : Addr) (ws : List Int) (c : Nat), vs = [.ref w, .int (c : Nat)] ∧ WsT K H w ws ∧ 1 ≤ c ∧ c ≤ 6 ∧ ∀ M H', Same H H' → IsBest ws c M → Q (.int M) H'
def LeastTo (ws : List Int) (M : Int) (c k : Nat) (sh : List Nat) : Prop := ∀ i, i < k → ∀ e, sh.getD i 0 ≤ e → e ≤ ws.length → needN M (ws.drop e) ≤ c - 1 - i → sh.getD (i + 1) 0 ≤ e
theorem LeastTo.snoc {ws : List Int} {M : Int} {c k x : Nat} {sh : List Nat} (L : LeastTo ws M c k sh) (hl : sh.length = k + 1) (hx : ∀ e, sh.getD k 0 ≤ e → e ≤ ws.length → needN M (ws.drop e) ≤ c - 1 - k → x ≤ e) : LeastTo ws M c (k + 1) (sh ++ [x]) := by
  intro i hi e h1 h2 h3
  by_cases q : i = k
  · subst q
    rw [getD_app (by omega)] at h1
    rw [getD_end (by omega)]
    exact hx e h1 h2 h3
  · rw [getD_app (by omega)] at h1
    rw [getD_app (by omega)]
    exact L i (by omega) e h1 h2 h3
def sp_best_share (K : PySem.W.Frag) : Sp := fun vs H Q _ => ∃ (w : Addr) (ws : List Int) (c : Nat), vs = [.ref w, .int (c : Nat)] ∧ WsT K H w ws ∧ 1 ≤ c ∧ c ≤ 6 ∧ ∀ M t (sh : List Nat) H', Same H H' → H' t = some (.tup (sh.map nV)) → IsBest ws c M → ShPart ws M c c sh → LeastTo ws M c c sh → Q (.ref t) H'
theorem ShPart.at_last {ws : List Int} {M : Int} {c k : Nat} {sh : List Nat} (S : ShPart ws M c k sh) : atI (sh.map nV) (-1) = some (.int ((sh.getD k 0 : Nat) : Int)) := at_m1 (by
  have := S.len
  rw [List.getLast?_eq_getElem?, List.length_map, this, Nat.add_sub_cancel]
  exact getD_atN (by omega))
structure ShIn (K : PySem.W.Frag) (H : Hp) (w s : Addr) (ws : List Int) (sh : List Nat) (c : Nat) : Prop where
  tw : SqT K H w (ws.map V.int)
  ts : SqT K H s (sh.map nV)
  ok : ShOk sh c ws.length
  nn : ∀ x ∈ ws, 0 ≤ x ∧ x ≤ 100
  c1 : 1 ≤ c
  c6 : c ≤ 6
  l12 : ws.length ≤ 20
theorem ShIn.same {K : PySem.W.Frag} {H H' : Hp} {w s : Addr} {ws : List Int} {sh : List Nat} {c : Nat} (h : ShIn K H w s ws sh c) (e : Same H H') : ShIn K H' w s ws sh c := ⟨Same.seqT e h.tw, Same.seqT e h.ts, h.ok, h.nn, h.c1, h.c6, h.l12⟩
theorem ShOk.le {sh : List Nat} {c N : Nat} (S : ShOk sh c N) {k : Nat} (hk : k ≤ c) : sh.getD k 0 ≤ N := by
  have := S.mono k c hk (Nat.le_refl c)
  rw [S.last] at this
  exact this
theorem ShIn.rlen {K : PySem.W.Frag} {H : Hp} {w s : Addr} {ws : List Int} {sh : List Nat} {c : Nat} (h : ShIn K H w s ws sh c) {k : Nat} (hk : k < c) : ((rw_ ws sh k).length : Int) = ((ws.drop (sh.getD k 0)).take (sh.getD (k + 1) 0 - sh.getD k 0)).sum := by
  have h1 := h.ok.le (k := k + 1) (by omega)
  have h2 := h.ok.mono k (k + 1) (by omega) (by omega)
  exact rowN_len (fun x hx => (h.nn x hx).1) _ (by omega)
theorem sum_bd : ∀ {l : List Int}, (∀ x ∈ l, x ≤ 100) → l.sum ≤ 100 * l.length
  | [], _ => by simp
  | c :: cs, h => by
    have h1 := h c (List.mem_cons_self ..)
    have h2 := sum_bd (l := cs) fun x hx => h x (List.mem_cons_of_mem _ hx)
    rw [List.sum_cons, List.length_cons, Int.natCast_add, Int.mul_add]
    omega
theorem ShIn.rbd {K : PySem.W.Frag} {H : Hp} {w s : Addr} {ws : List Int} {sh : List Nat} {c : Nat} (h : ShIn K H w s ws sh c) {k : Nat} (hk : k < c) : (rw_ ws sh k).length ≤ 2000 := by
  have h1 := h.rlen hk
  have h2 := sum_bd (l := (ws.drop (sh.getD k 0)).take (sh.getD (k + 1) 0 - sh.getD k 0)) fun x hx => (h.nn x (List.mem_of_mem_drop (List.mem_of_mem_take hx))).2
  have h3 : ((ws.drop (sh.getD k 0)).take (sh.getD (k + 1) 0 - sh.getD k 0)).length ≤ ws.length := by
    rw [List.length_take, List.length_drop]
    omega
  have h4 := h.l12
  omega
def lensI (ws : List Int) (sh : List Nat) (c : Nat) : List Int := (List.range c).map fun k => ((rw_ ws sh k).length : Int)
def sp_loads (K : PySem.W.Frag) : Sp := fun vs H Q _ => ∃ (w s : Addr) (ws : List Int) (sh : List Nat) (c : Nat), vs = [.ref w, .ref s] ∧ ShIn K H w s ws sh c ∧ ∀ t H', Same H H' → H t = none → H' t = some (.lst ((lensI ws sh c).map V.int)) → Q (.ref t) H'
def sp__law_loads (K : PySem.W.Frag) : Sp := fun vs H Q _ => ∃ (w s : Addr) (ws : List Int) (sh : List Nat) (c : Nat), vs = [.ref w, .ref s] ∧ ShIn K H w s ws sh c ∧ ∀ t H', Same H H' → H t = none → H' t = some (.lst ((lensI ws sh c).map V.int)) → Q (.ref t) H'
def sp__law_works (K : PySem.W.Frag) : Sp := fun vs H Q _ => ∃ (p l : Addr), vs = [.ref p] ∧ PoolAt H p l ∧ ∀ (w : Addr) (ws : List Int) H', But p H H' → PoolAt H' p l → SqT K H' w (ws.map V.int) → 1 ≤ ws.length → ws.length ≤ 12 → (∀ x ∈ ws, 0 ≤ x ∧ x ≤ 100) → Q (.ref w) H'
theorem lens_at {ws : List Int} {sh : List Nat} {i : Nat} : lensI ws sh (i + 1) = lensI ws sh i ++ [((rw_ ws sh i).length : Int)] := by
  unfold lensI
  rw [List.range_succ, List.map_append]
  rfl
theorem getD_some {cs : List Int} {k : Nat} (hk : k < cs.length) : cs[k]? = some (cs.getD k 0) := by
  rw [List.getElem?_eq_getElem hk, List.getD_eq_getElem?_getD, List.getElem?_eq_getElem hk]
  rfl
theorem ShIn.of {K : PySem.W.Frag} {H : Hp} {w s : Addr} {ws : List Int} {M : Int} {c : Nat} {sh : List Nat} (hW : WsT K H w ws) (hs : SqT K H s (sh.map nV)) (S : ShPart ws M c c sh) (h1 : 1 ≤ c) (h6 : c ≤ 6) : ShIn K H w s ws sh c := ⟨hW.t, hs, S.ok, hW.b, h1, h6, by have := hW.l12; omega⟩
theorem lens_max {K : PySem.W.Frag} {H : Hp} {w s : Addr} {ws : List Int} {M m : Int} {c : Nat} {sh : List Nat} (I : ShIn K H w s ws sh c) (hW : WsT K H w ws) (B : IsBest ws c M) (S : ShPart ws M c c sh) (h1 : m ∈ lensI ws sh c) (h2 : ∀ x ∈ lensI ws sh c, x ≤ m) : m = M := by
  have hl : ∀ i, i < c → ((rw_ ws sh i).length : Int) = seg ws (sh.getD i 0) (sh.getD (i + 1) 0) := fun i hi => I.rlen hi
  refine best_eq (f := fun i => sh.getD i 0) B (fun x hx => (hW.b x hx).1) hW.ne S.zero S.last (fun i hi => (S.step i hi).1) (fun i hi => (S.step i hi).2) ?_ (fun i hi => ?_)
  · obtain ⟨i, hi, rfl⟩ := List.mem_map.mp h1
    exact ⟨i, List.mem_range.mp hi, hl i (List.mem_range.mp hi)⟩
  · rw [← hl i hi]
    exact h2 _ (List.mem_map.mpr ⟨i, List.mem_range.mpr hi, rfl⟩)
def RowT (K : PySem.W.Frag) (H : Hp) (v : V) (row : List Nat) : Prop := ∃ r, v = .ref r ∧ SqT K H r (row.map nV)
theorem RowT.same {K : PySem.W.Frag} {H H' : Hp} (e : Same H H') {v : V} {s : List Nat} (h : RowT K H v s) : RowT K H' v s := by
  obtain ⟨r, h1, h2⟩ := h
  exact ⟨r, h1, Same.seqT e h2⟩
theorem RowT.updL {K : PySem.W.Frag} {H : Hp} {f : Addr} {us : List V} {o : HO} {v : V} {s : List Nat} (h : RowT K H v s) (hf : H f = some (.lst us)) : RowT K (upd H f o) v s := by
  obtain ⟨r, h1, h2⟩ := h
  exact ⟨r, h1, SqT.updL h2 hf⟩
theorem mapnV (l : List Nat) : l.map nV = (l.map fun n : Nat => (n : Int)).map V.int := by
  rw [List.map_map]
  rfl
theorem RowOk.ok {N k : Nat} {r : List Nat} (R : RowOk N k r) : ShOk (r ++ [N]) (k + 1) N := by
  have hl := R.len
  have e1 : (r ++ [N]).getD (k + 1) 0 = N := getD_end (by omega)
  refine ⟨by rw [List.length_append, List.length_singleton]; omega, by rw [getD_app (by omega)]; exact R.zero, e1, mono_of fun i hi => ?_⟩
  by_cases e : i = k
  · subst e
    rw [e1, getD_app (by omega)]
    exact R.top
  · rw [getD_app (by omega), getD_app (by omega)]
    exact R.step i (by omega)
theorem ShOk.row {N k : Nat} {sh : List Nat} (S : ShOk sh (k + 1) N) : ∃ r, RowOk N k r ∧ sh = r ++ [N] := by
  have hl := S.len
  have hne : sh ≠ [] := fun z => by
    rw [z] at hl
    cases hl
  obtain ⟨r, x, rfl⟩ : ∃ r x, sh = r ++ [x] := ⟨sh.dropLast, sh.getLast hne, (List.dropLast_concat_getLast hne).symm⟩
  have hl0 : r.length = k + 1 := by
    rw [List.length_append, List.length_singleton] at hl
    omega
  have ex : (r ++ [x]).getD (k + 1) 0 = x := getD_end (by omega)
  have hx := S.last
  rw [ex] at hx
  subst hx
  refine ⟨r, ⟨hl0, by have := S.zero; rw [getD_app (by omega)] at this; exact this, fun i hi => ?_, ?_⟩, rfl⟩
  · have := S.mono i (i + 1) (by omega) (by omega)
    rw [getD_app (by omega), getD_app (by omega)] at this
    exact this
  · have := S.mono k (k + 1) (by omega) (by omega)
    rw [ex, getD_app (by omega)] at this
    exact this
def sharesN (N c : Nat) : List (List Nat) := (shsN N (c - 1)).map fun r => r ++ [N]
theorem sharesN_ok {N c : Nat} (hc : 1 ≤ c) {r : List Nat} (h : r ∈ sharesN N c) : ShOk r c N := by
  obtain ⟨r0, h0, rfl⟩ := List.mem_map.mp h
  have := (shsN_ok h0).ok
  rw [show c - 1 + 1 = c by omega] at this
  exact this
theorem sharesN_all {N c : Nat} (hc : 1 ≤ c) {r : List Nat} (h : ShOk r c N) : r ∈ sharesN N c := by
  rw [show c = c - 1 + 1 by omega] at h
  obtain ⟨r0, h1, rfl⟩ := h.row
  exact List.mem_map.mpr ⟨r0, shsN_all h1, rfl⟩
theorem pow_le {k : Nat} (h : k ≤ 3) : 13 ^ k ≤ 2197 := by
  match k, h with
  | 0, _ => decide
  | 1, _ => decide
  | 2, _ => decide
  | 3, _ => decide
theorem paired_cat {α β : Type} {F : α → β → Prop} : ∀ {xs : List α} {ys : List β} {us : List α} {vs : List β}, Paired F xs ys → Paired F us vs → Paired F (xs ++ us) (ys ++ vs)
  | _, _, _, _, .nil, h => h
  | _, _, _, _, .cons g t, h => .cons g (paired_cat t h)
def sp__law_shares (K : PySem.W.Frag) : Sp := fun vs H Q _ => ∃ (N c : Nat), vs = [.int (N : Nat), .int (c : Nat)] ∧ 1 ≤ c ∧ c ≤ 4 ∧ N ≤ 12 ∧ ∀ (t : Addr) (us : List V) H', Same H H' → H' t = some (.lst us) → Paired (RowT K H') us (sharesN N c) → us.length ≤ 2197 → Q (.ref t) H'
/-- two rows, the first place at which they differ tells -/
theorem lex_not : ∀ {a b : List Int}, a.length = b.length → (∀ j, j < a.length → (∀ i, i < j → a.getD i 0 = b.getD i 0) → b.getD j 0 ≤ a.getD j 0) → HT.lexLt a b = false
  | [], [], _, _ => rfl
  | [], _ :: _, h, _ => by cases h
  | _ :: _, [], h, _ => by cases h
  | x :: xs, y :: ys, hl, h => by
    rw [HT.lexLt_cons]
    have h0 : y ≤ x := h 0 (by simp) fun i hi => absurd hi (Nat.not_lt_zero i)
    by_cases c : x = y
    · rw [if_pos c]
      refine lex_not (by simpa using hl) fun j hj hi => ?_
      refine h (j + 1) (by simpa using hj) fun i hij => ?_
      cases i with
      | zero => exact c
      | succ i => exact hi i (by omega)
    · rw [if_neg c]
      exact decide_eq_false (by omega)
theorem max_ex : ∀ {l : List Int}, l ≠ [] → ∃ z, z ∈ l ∧ ∀ x ∈ l, x ≤ z
  | [], h => absurd rfl h
  | [a], _ => ⟨a, List.mem_cons_self .., fun x hx => by rw [List.mem_singleton.mp hx]; exact Int.le_refl _⟩
  | a :: b :: l, _ => by
    obtain ⟨z, h1, h2⟩ := max_ex (l := b :: l) (by simp)
    by_cases c : a ≤ z
    · exact ⟨z, List.mem_cons_of_mem _ h1, fun x hx => by
        rcases List.mem_cons.mp hx with rfl | hx
        · exact c
        · exact h2 x hx⟩
    · exact ⟨a, List.mem_cons_self .., fun x hx => by
        rcases List.mem_cons.mp hx with rfl | hx
        · exact Int.le_refl _
        · have := h2 x hx
          omega⟩
def natI (l : List Nat) : List Int := l.map fun n : Nat => (n : Int)
theorem natI_getD {l : List Nat} {i : Nat} : (natI l).getD i 0 = ((l.getD i 0 : Nat) : Int) := by
  unfold natI
  rw [List.getD_eq_getElem?_getD, List.getD_eq_getElem?_getD, List.getElem?_map]
  cases l[i]? <;> rfl
theorem seg_drop {ws : List Int} {a x y : Nat} (h1 : a ≤ x) (h2 : x ≤ y) : seg (ws.drop a) (x - a) (y - a) = seg ws x y := by
  unfold seg
  rw [List.drop_drop, show a + (x - a) = x by omega, show y - a - (x - a) = y - x by omega]
/-- no share whose loads are small enough comes ahead of the one with the least ends -/
theorem least_first {ws : List Int} {M : Int} {c : Nat} {sh row : List Nat} (h0 : ∀ x ∈ ws, 0 ≤ x) (S : ShPart ws M c c sh) (L : LeastTo ws M c c sh) (R : ShOk row c ws.length) (hM : ∀ i, i < c → seg ws (row.getD i 0) (row.getD (i + 1) 0) ≤ M) : HT.lexLt (natI row) (natI sh) = false := by
  have hl1 := R.len
  have hl2 := S.len
  refine lex_not (by unfold natI; rw [List.length_map, List.length_map, hl1, hl2]) fun j hj heq => ?_
  unfold natI at hj
  rw [List.length_map] at hj
  rw [natI_getD, natI_getD]
  cases j with
  | zero =>
    rw [S.zero, R.zero]
    exact Int.le_refl _
  | succ i =>
    have he := heq i (Nat.lt_succ_self i)
    rw [natI_getD, natI_getD] at he
    have hi : i < c := by omega
    have m1 := R.mono i (i + 1) (by omega) (by omega)
    have m2 := R.mono (i + 1) c (by omega) (Nat.le_refl c)
    rw [R.last] at m2
    have hs : Split M (c - 1 - i) (ws.drop (row.getD (i + 1) 0)) := by
      refine split_share (f := fun k => row.getD (i + 1 + k) 0 - row.getD (i + 1) 0) (by simp) ?_ (fun k hk => ?_) (fun k hk => ?_)
      · show row.getD (i + 1 + (c - 1 - i)) 0 - row.getD (i + 1) 0 = (ws.drop (row.getD (i + 1) 0)).length
        rw [show i + 1 + (c - 1 - i) = c by omega, R.last, List.length_drop]
      · have := R.mono (i + 1 + k) (i + 1 + (k + 1)) (by omega) (by omega)
        omega
      · have a1 := R.mono (i + 1) (i + 1 + k) (by omega) (by omega)
        have a2 := R.mono (i + 1 + k) (i + 1 + k + 1) (by omega) (by omega)
        show seg (ws.drop (row.getD (i + 1) 0)) (row.getD (i + 1 + k) 0 - row.getD (i + 1) 0) (row.getD (i + 1 + (k + 1)) 0 - row.getD (i + 1) 0) ≤ M
        rw [show i + 1 + (k + 1) = i + 1 + k + 1 by omega, seg_drop a1 a2]
        exact hM _ (by omega)
    have hn := hs.need fun x hx => h0 x (List.mem_of_mem_drop hx)
    have := L i hi (row.getD (i + 1) 0) (by omega) m2 hn
    omega
def sp_law (K : PySem.W.Frag) : Sp := fun vs H Q _ => ∃ (a : Addr) (ns : List Int), vs = [.ref a] ∧ SqL K H a (ns.map V.int) ∧ ns.length ≤ 63 ∧ ∀ H', Q (.bl true) H'
/-- the best of the first i shares -/
structure BestTo (ws : List Int) (c : Nat) (rows : List (List Nat)) (i : Nat) (m : Int) (row : List Nat) : Prop where
  mem : row ∈ rows
  max : m ∈ lensI ws row c ∧ ∀ x ∈ lensI ws row c, x ≤ m
  least : ∀ j, j < i → ∀ r, rows[j]? = some r → ∀ z, z ∈ lensI ws r c → (∀ x ∈ lensI ws r c, x ≤ z) → HT.lexLt (z :: natI r) (m :: natI row) = false

section
variable {P : Program} {w : World} {K : PySem.W.Frag} {mg : Str → Option Value} {base : Heap}
theorem sc__law_same : FnScope ["actual", "due", "k"] ["actual", "due"] (defScope s__law_same) := ⟨rfl, rfl, rfl, by decide +kernel, rfl, by decide +kernel, by decide +kernel⟩
theorem ok__law_same_step (n : Nat) {f : Addr} {fd : FuncData} (F : Fun K "_law_same" "_law_same" s__law_same f fd) (T : Txt K mg) (C__law_same : Cal P w K mg base "_law_same" f fd ["actual", "due"] (sp__law_same K n) (n + 1)) : FnOk P w K mg base CX0 (n + 1 + 1) f fd ["actual", "due"] (sp__law_same K (n + 1)) := by
  refine F.ok sc__law_same (fun vs H Q E h => ?_) (fun cdv A outer s H vs Q E hr h => ?_)
  · obtain ⟨x, y, d, e, rfl, hd, he, hs, q⟩ := h
    rfl
  · obtain ⟨x, y, d, e, rfl, hd, he, hs, q⟩ := h
    refine ⟨_, (pss_cons (ps_if ((pw_or (pt_val (pe_callB (callIsiK (K := K) rfl) (by rfl) T.z_isinstance (by decide +kernel) (pa_cons (pv 1) (pa_cons (pe_bltn (v := .ty "tuple") (by rfl) T.z_tuple (by decide +kernel) rfl) pa_nil)))) (pw_or1 (pt_val (pe_callB (callIsiK (K := K) rfl) (by rfl) T.z_isinstance (by decide +kernel) (pa_cons (pv 1) (pa_cons (pe_bltn (v := .ty "list") (by rfl) T.z_list (by decide +kernel) rfl) pa_nil))))))).pt (pss_cons (ps_if ((pw_or (pt_cmpR (opNeK (K := K) rfl hr.units) (pe_callB (callIsiK (K := K) rfl) (by rfl) T.z_isinstance (by decide +kernel) (pa_cons (pv 1) (pa_cons (pe_bltn (v := .ty "tuple") (by rfl) T.z_tuple (by decide +kernel) rfl) pa_nil))) (pe_callB (callIsiK (K := K) rfl) (by rfl) T.z_isinstance (by decide +kernel) (pa_cons (pv 0) (pa_cons (pe_bltn (v := .ty "tuple") (by rfl) T.z_tuple (by decide +kernel) rfl) pa_nil))) (nomark _)) (pw_or (pt_cmpR (opNeK (K := K) rfl hr.units) (pe_callB (callIsiK (K := K) rfl) (by rfl) T.z_isinstance (by decide +kernel) (pa_cons (pv 1) (pa_cons (pe_bltn (v := .ty "list") (by rfl) T.z_list (by decide +kernel) rfl) pa_nil))) (pe_callB (callIsiK (K := K) rfl) (by rfl) T.z_isinstance (by decide +kernel) (pa_cons (pv 0) (pa_cons (pe_bltn (v := .ty "list") (by rfl) T.z_list (by decide +kernel) rfl) pa_nil))) (nomark _)) (pw_or1 (pt_cmpR (opNeK (K := K) rfl hr.units) (pe_callB (callLenK (K := K) rfl) (by rfl) T.z_len (by decide +kernel) (pa_cons (pv 0) pa_nil)) (pe_callB (callLenK (K := K) rfl) (by rfl) T.z_len (by decide +kernel) (pa_cons (pv 1) pa_nil)) (nomark _)))))).pt (pss_one (ps_ret pe_bl)) pss_nil)
      (pss_one (ps_ret (pe_cmpR (opEqK (K := K) rfl hr.units) (pe_callB (callLenK (K := K) rfl) (by rfl) T.z_len (by decide +kernel) (pa_cons (pe_lc (own := [("k", 2)]) (by rfl) sc__law_same.nd (pi_range1 (by rfl) T.z_range (pa_cons (pe_callB (callLenK (K := K) rfl) (by rfl) T.z_len (by decide +kernel) (pa_cons (pv 1) pa_nil)) pa_nil)) (blkOk_by (own := [("k", 2)]) (N := ["actual", "due", "k"]) (sc := defScope s__law_same) (by decide +kernel)) (fun _ _ _ _ _ => (pg_name (i := 2) sc__law_same.nd rfl (by first | exact Or.inl rfl | exact Or.inr rfl))) (fun _ _ _ _ _ => (pts_one (pt_not (pt_val (pe_call C__law_same.G (hr.mono (by first | decide | omega)) (by rfl) C__law_same.m C__law_same.kp C__law_same.b .nil pass0 (pa_cons (pe_ix (ixSeqK (K := K) rfl) (pv 0) (pv 2) (fun _ _ => rfl)) (pa_cons (pe_ix (ixSeqK (K := K) rfl) (pv 1) (pv 2) (fun _ _ => rfl)) pa_nil))))))) (fun _ _ _ _ _ => (pv 2))) pa_nil)) pe_int (nomark _))))) pss_nil)
      (pss_cons (ps_if (pt_cmp (pc_isN (pv 1))) (pss_one (ps_ret (pe_cmp (pc_isN (pv 0))))) pss_nil)
      (pss_cons (ps_if ((pw_or (pt_val (pe_callB (callIsiK (K := K) rfl) (by rfl) T.z_isinstance (by decide +kernel) (pa_cons (pv 1) (pa_cons (pe_bltn (v := .ty "bool") (by rfl) T.z_bool (by decide +kernel) rfl) pa_nil)))) (pw_or1 (pt_val (pe_callB (callIsiK (K := K) rfl) (by rfl) T.z_isinstance (by decide +kernel) (pa_cons (pv 0) (pa_cons (pe_bltn (v := .ty "bool") (by rfl) T.z_bool (by decide +kernel) rfl) pa_nil))))))).pt (pss_one (ps_ret (pe_and (pe_callB (callIsiK (K := K) rfl) (by rfl) T.z_isinstance (by decide +kernel) (pa_cons (pv 1) (pa_cons (pe_bltn (v := .ty "bool") (by rfl) T.z_bool (by decide +kernel) rfl) pa_nil))) (pe_and (pe_callB (callIsiK (K := K) rfl) (by rfl) T.z_isinstance (by decide +kernel) (pa_cons (pv 0) (pa_cons (pe_bltn (v := .ty "bool") (by rfl) T.z_bool (by decide +kernel) rfl) pa_nil))) (pe_one (pe_cmpR (opEqK (K := K) rfl hr.units) (pv 0) (pv 1) (nomark _))))))) pss_nil)
      (pss_cons (ps_if (pt_val (pe_callB (callIsiK (K := K) rfl) (by rfl) T.z_isinstance (by decide +kernel) (pa_cons (pv 1) (pa_cons (pe_bltn (v := .ty "int") (by rfl) T.z_int (by decide +kernel) rfl) pa_nil)))) (pss_one (ps_ret (pe_and (pe_callB (callIsiK (K := K) rfl) (by rfl) T.z_isinstance (by decide +kernel) (pa_cons (pv 0) (pa_cons (pe_bltn (v := .ty "int") (by rfl) T.z_int (by decide +kernel) rfl) pa_nil))) (pe_one (pe_cmpR (opEqK (K := K) rfl hr.units) (pv 0) (pv 1) (nomark _)))))) pss_nil)
      (pss_one (ps_ret (pe_and (pe_callB (callIsiK (K := K) rfl) (by rfl) T.z_isinstance (by decide +kernel) (pa_cons (pv 0) (pa_cons (pe_bltn (v := .ty "str") (by rfl) T.z_str (by decide +kernel) rfl) pa_nil))) (pe_and (pe_callB (callIsiK (K := K) rfl) (by rfl) T.z_isinstance (by decide +kernel) (pa_cons (pv 1) (pa_cons (pe_bltn (v := .ty "str") (by rfl) T.z_str (by decide +kernel) rfl) pa_nil))) (pe_one (pe_cmpR (opEqK (K := K) rfl hr.units) (pv 0) (pv 1) (nomark _))))))))))), ?_⟩
    cases he with
    | non => cases hd <;> (walk_at "RR"; exact q _ _ (Same.refl H) (by simp))
    | bl b => cases hd <;> (walk_at "RR"; exact q _ _ (Same.refl H) (by simp))
    | int b => cases hd <;> (walk_at "RR"; exact q _ _ (Same.refl H) (by simp))
    | str b => cases hd <;> (walk_at "RR"; exact q _ _ (Same.refl H) (by simp))
    | lst hl ha =>
      rename_i ad xs ds
      cases hd with
      | lst hl2 ha2 =>
        rename_i ad2 xs2 ds2
        have l1 := DpAll.len ha
        have l2 := DpAll.len ha2
        walk_at "RR"
        refine k_ifS (fun hb => ?_) (fun hb => ?_)
        · walk_at "RR"
          have hb0 : ¬ ((xs2.length : Nat) : Int) = ((xs.length : Nat) : Int) := by simpa only [Bool.not_eq_true', decide_eq_false_iff_not] using hb
          have hb' : ¬ xs2.length = xs.length := by omega
          refine q _ _ (Same.refl H) ⟨fun z => absurd z Bool.false_ne_true, fun z => ?_⟩
          injection z with z
          subst z
          omega
        · have hb0 : ((xs2.length : Nat) : Int) = ((xs.length : Nat) : Int) := by simpa only [Bool.not_eq_false', decide_eq_true_iff] using hb
          have hb' : xs2.length = xs.length := by omega
          have hsm : ds.length ≤ 1000 := by
            cases n with
            | zero => exact absurd hs (by simp [Shal])
            | succ n => exact hs.1
          walk_at "RR"
          refine k_lcR1 (by omega) (fun dd hdd => ⟨fun i H' => ∃ acc : List V, H' dd = some (.lst acc) ∧ Same H H' ∧ acc.length ≤ i ∧ (acc = [] ↔ ∀ j, j < i → ds2[j]? = ds[j]?), ?_, ?_, ?_⟩)
          · exact ⟨[], upd_same, same_new hdd, Nat.le_refl _, by simp⟩
          · rintro i H1 hi ⟨acc, h1, h2, h3, h4⟩
            obtain ⟨v2, d2, g1, g2, g3⟩ := DpAll.at ha2 (i := i) (by omega)
            obtain ⟨v1, d1, f1, f2, f3⟩ := DpAll.at ha (i := i) (by omega)
            have hL2 : SqL K H1 ad2 xs2 := h2.seq hl2
            have hL1 : SqL K H1 ad xs := h2.seq hl
            walk_at "RR"
            cases n with
            | zero => exact absurd hs (by simp [Shal])
            | succ n =>
              refine ⟨_, _, _, _, rfl, Dp.same h2 g3, Dp.same h2 f3, hs.2 _ (List.mem_of_getElem? f2), fun b H2 e2 hb => ?_⟩
              walk_at "RR"
              refine k_tst (fun hb2 => ?_) (fun hb2 => ?_)
              · walk_at "RR"
                refine k_elt (acc := acc) (e2 _ _ h1) (by omega) ⟨acc ++ [_], upd_same, Same.mut (h2.trans e2) hdd, by rw [List.length_append, List.length_singleton]; omega, ⟨fun z => absurd z (by simp), fun z => ?_⟩⟩
                have z1 := z i (Nat.lt_succ_self i)
                rw [g2, f2] at z1
                have : b = true := hb.mpr (Option.some.inj z1)
                rw [this] at hb2
                cases hb2
              · refine ⟨acc, e2 _ _ h1, h2.trans e2, by omega, ⟨fun z j hj => ?_, fun z => h4.mpr fun j hj => z j (by omega)⟩⟩
                have b1 : b = true := by simpa using hb2
                by_cases hji : j = i
                · rw [hji, g2, f2, hb.mp b1]
                · exact h4.mp z j (by omega)
          · rintro H1 ⟨acc, h1, h2, h3, h4⟩
            walk_at "RR"
            refine q _ _ h2 ?_
            have e0 : (decide (((acc.length : Nat) : Int) = 0) = true) ↔ acc = [] := by
              rw [decide_eq_true_iff]
              constructor
              · intro z
                exact List.eq_nil_of_length_eq_zero (by omega)
              · intro z
                rw [z]
                rfl
            refine e0.trans (h4.trans ⟨fun z => ?_, fun z j _ => ?_⟩)
            · rw [all_at (ds := ds2) (es := ds) (by omega) fun j hj => z j (by omega)]
            · injection z with z
              rw [z]
      | _ => walk_at "RR"; exact q _ _ (Same.refl H) (by simp)
    | tup hl ha =>
      rename_i ad xs ds
      cases hd with
      | tup hl2 ha2 =>
        rename_i ad2 xs2 ds2
        have l1 := DpAll.len ha
        have l2 := DpAll.len ha2
        walk_at "RR"
        refine k_ifS (fun hb => ?_) (fun hb => ?_)
        · walk_at "RR"
          have hb0 : ¬ ((xs2.length : Nat) : Int) = ((xs.length : Nat) : Int) := by simpa only [Bool.not_eq_true', decide_eq_false_iff_not] using hb
          have hb' : ¬ xs2.length = xs.length := by omega
          refine q _ _ (Same.refl H) ⟨fun z => absurd z Bool.false_ne_true, fun z => ?_⟩
          injection z with z
          subst z
          omega
        · have hb0 : ((xs2.length : Nat) : Int) = ((xs.length : Nat) : Int) := by simpa only [Bool.not_eq_false', decide_eq_true_iff] using hb
          have hb' : xs2.length = xs.length := by omega
          have hsm : ds.length ≤ 1000 := by
            cases n with
            | zero => exact absurd hs (by simp [Shal])
            | succ n => exact hs.1
          walk_at "RR"
          refine k_lcR1 (by omega) (fun dd hdd => ⟨fun i H' => ∃ acc : List V, H' dd = some (.lst acc) ∧ Same H H' ∧ acc.length ≤ i ∧ (acc = [] ↔ ∀ j, j < i → ds2[j]? = ds[j]?), ?_, ?_, ?_⟩)
          · exact ⟨[], upd_same, same_new hdd, Nat.le_refl _, by simp⟩
          · rintro i H1 hi ⟨acc, h1, h2, h3, h4⟩
            obtain ⟨v2, d2, g1, g2, g3⟩ := DpAll.at ha2 (i := i) (by omega)
            obtain ⟨v1, d1, f1, f2, f3⟩ := DpAll.at ha (i := i) (by omega)
            have hL2 : SqT K H1 ad2 xs2 := Same.seqT h2 hl2
            have hL1 : SqT K H1 ad xs := Same.seqT h2 hl
            walk_at "RR"
            cases n with
            | zero => exact absurd hs (by simp [Shal])
            | succ n =>
              refine ⟨_, _, _, _, rfl, Dp.same h2 g3, Dp.same h2 f3, hs.2 _ (List.mem_of_getElem? f2), fun b H2 e2 hb => ?_⟩
              walk_at "RR"
              refine k_tst (fun hb2 => ?_) (fun hb2 => ?_)
              · walk_at "RR"
                refine k_elt (acc := acc) (e2 _ _ h1) (by omega) ⟨acc ++ [_], upd_same, Same.mut (h2.trans e2) hdd, by rw [List.length_append, List.length_singleton]; omega, ⟨fun z => absurd z (by simp), fun z => ?_⟩⟩
                have z1 := z i (Nat.lt_succ_self i)
                rw [g2, f2] at z1
                have : b = true := hb.mpr (Option.some.inj z1)
                rw [this] at hb2
                cases hb2
              · refine ⟨acc, e2 _ _ h1, h2.trans e2, by omega, ⟨fun z j hj => ?_, fun z => h4.mpr fun j hj => z j (by omega)⟩⟩
                have b1 : b = true := by simpa using hb2
                by_cases hji : j = i
                · rw [hji, g2, f2, hb.mp b1]
                · exact h4.mp z j (by omega)
          · rintro H1 ⟨acc, h1, h2, h3, h4⟩
            walk_at "RR"
            refine q _ _ h2 ?_
            have e0 : (decide (((acc.length : Nat) : Int) = 0) = true) ↔ acc = [] := by
              rw [decide_eq_true_iff]
              constructor
              · intro z
                exact List.eq_nil_of_length_eq_zero (by omega)
              · intro z
                rw [z]
                rfl
            refine e0.trans (h4.trans ⟨fun z => ?_, fun z j _ => ?_⟩)
            · rw [all_at (ds := ds2) (es := ds) (by omega) fun j hj => z j (by omega)]
            · injection z with z
              rw [z]
      | _ => walk_at "RR"; exact q _ _ (Same.refl H) (by simp)

theorem ok__law_same_all {f : Addr} {fd : FuncData} (F : Fun K "_law_same" "_law_same" s__law_same f fd) (T : Txt K mg) (m : mg "_law_same" = some (.ref f)) (b : Binds K fd ["actual", "due"] []) : ∀ n, FnOk P w K mg base CX0 (n + 1) f fd ["actual", "due"] (sp__law_same K n)
  | 0 => ⟨fun _ _ _ _ h => h.elim, fun _ _ _ _ _ _ _ _ _ _ _ _ _ h => h.elim⟩
  | n + 1 => ok__law_same_step n F T  ⟨ok__law_same_all F T  m b n, m, F.kp, b⟩
theorem sc__law_pool : FnScope ["script", "salt", "cell"] ["script"] (defScope s__law_pool) := ⟨rfl, rfl, rfl, by decide +kernel, rfl, by decide +kernel, by decide +kernel⟩
theorem ok__law_pool {f : Addr} {fd : FuncData} (F : Fun K "_law_pool" "_law_pool" s__law_pool f fd) (T : Txt K mg) : FnOk P w K mg base CX0 1 f fd ["script"] (sp__law_pool K) := by
  refine F.ok sc__law_pool (fun vs H Q E h => ?_) (fun cdv A outer s H vs Q E hr h => ?_)
  · obtain ⟨a, ns, rfl, hS, hn, q⟩ := h
    rfl
  · obtain ⟨a, ns, rfl, hS, hn, q⟩ := h
    refine ⟨_, (pss_cons (ps_set (i := 1) sc__law_pool.nd rfl (by first | exact Or.inl rfl | exact Or.inr rfl) pe_int)
      (pss_cons (ps_for PassesOwn.never rfl (piSeqK (K := K) rfl (pe_slice (slAnyK (K := K) rfl) (pv 0) po_none (po_some pe_int))) (pg_name (i := 2) sc__law_pool.nd rfl (by first | exact Or.inl rfl | exact Or.inr rfl)) (pss_one (ps_set (i := 1) sc__law_pool.nd rfl (by first | exact Or.inl rfl | exact Or.inr rfl) (pe_op op_mod (pe_callTy callInt1 (by rfl) T.z_int (by decide +kernel) (pa_cons (pe_op (opAddK (K := K) rfl) (pe_op opMul (pv 1) pe_int) (pv 2)) pa_nil)) pe_int))))
      (pss_one (ps_ret (pe_lst (pa_cons (pe_callTy (callListOfK (K := K) rfl) (by rfl) T.z_list (by decide +kernel) (pa_cons (pv 0) pa_nil)) (pa_cons pe_int (pa_cons pe_int (pa_cons pe_int (pa_cons (pv 1) pa_nil)))))))))), ?_⟩
    walk_at "R"
    refine w_forL ?_
    walk_at "R"
    refine o_slL hS (fun c H1 nc e1 hc => ?_)
    refine k_forL (fun i σ H' => ∃ z y, σ = [some (.ref a), some (.int z), y] ∧ Same H1 H') (SqL.of hc) ⟨7, none, rfl, Same.refl H1⟩ (fun i σ H' _ hp => ?_) (fun i x σ H' hx hp => ?_) (fun σ H' hp => ?_)
    · obtain ⟨z, y, rfl, e2⟩ := hp
      exact e2.seq (SqL.of hc)
    · obtain ⟨z, y, rfl, e2⟩ := hp
      obtain ⟨n, rfl⟩ := int_of_mem (cut_mem hx)
      walk_at "R"
      exact ⟨_, _, rfl, e2⟩
    · obtain ⟨z, y, rfl, e2⟩ := hp
      walk_at "R"
      refine o_listL (e2.seq (e1.seq hS)) (fun l H2 nl e3 hl => ?_)
      walk_at "R"
      refine k_lst (by simp) (fun p H3 np e4 hp => ?_)
      exact q p l H3 (e1.trans (e2.trans (e3.trans e4))) ((e1.trans (e2.trans e3)).free np) ((e1.trans e2).free nl) ⟨ns, 0, 0, 0, z, hp, e4 _ _ hl, hn, by omega, by omega⟩

theorem sc__law_spread : FnScope ["cell", "mixed", "total", "k"] ["cell"] (defScope s__law_spread) := ⟨rfl, rfl, rfl, by decide +kernel, rfl, by decide +kernel, by decide +kernel⟩
theorem ok__law_spread {f : Addr} {fd : FuncData} (F : Fun K "_law_spread" "_law_spread" s__law_spread f fd) (T : Txt K mg) : FnOk P w K mg base CX0 1 f fd ["cell"] (sp__law_spread K) := by
  refine F.ok sc__law_spread (fun vs H Q E h => ?_) (fun cdv A outer s H vs Q E hr h => ?_)
  · obtain ⟨c, rfl, q⟩ := h
    rfl
  · obtain ⟨c, rfl, q⟩ := h
    refine ⟨_, (pss_cons (ps_set (i := 1) sc__law_spread.nd rfl (by first | exact Or.inl rfl | exact Or.inr rfl) (pe_op op_mod (pe_callTy callInt1 (by rfl) T.z_int (by decide +kernel) (pa_cons (pv 0) pa_nil)) pe_int))
      (pss_cons (ps_set (i := 2) sc__law_spread.nd rfl (by first | exact Or.inl rfl | exact Or.inr rfl) pe_int)
      (pss_cons (ps_for PassesOwn.never rfl (pi_range1 (by rfl) T.z_range (pa_cons pe_int pa_nil)) (pg_name (i := 3) sc__law_spread.nd rfl (by first | exact Or.inl rfl | exact Or.inr rfl)) (pss_cons (ps_set (i := 1) sc__law_spread.nd rfl (by first | exact Or.inl rfl | exact Or.inr rfl) (pe_op op_mod (pe_callTy callInt1 (by rfl) T.z_int (by decide +kernel) (pa_cons (pe_op (opAddK (K := K) rfl) (pe_op (opAddK (K := K) rfl) (pe_op opMul (pv 1) pe_int) pe_int) (pv 3)) pa_nil)) pe_int))
      (pss_one (ps_set (i := 2) sc__law_spread.nd rfl (by first | exact Or.inl rfl | exact Or.inr rfl) (pe_op (opAddK (K := K) rfl) (pe_op opMul (pv 2) pe_int) (pv 1))))))
      (pss_one (ps_ret (pv 2)))))), ?_⟩
    walk_at "R"
    refine k_forR1 (fun i σ H' => ∃ z t y, σ = [some (.int c), some (.int z), some (.int t), y] ∧ H' = H ∧ 0 ≤ z ∧ 0 < t) (by omega) ⟨_, 1, none, rfl, rfl, by omega, by omega⟩ (fun i σ H' hi hp => ?_) (fun σ H' hp => ?_)
    · obtain ⟨z, t, y, rfl, rfl, h0, h1⟩ := hp
      walk_at "R"
      exact ⟨_, _, _, rfl, rfl, by omega, by omega⟩
    · obtain ⟨z, t, y, rfl, rfl, h0, h1⟩ := hp
      walk_at "R"
      exact q _ h1

theorem sc__law_draw : FnScope ["pool", "many", "cell", "mixed", "value"] ["pool", "many"] (defScope s__law_draw) := ⟨rfl, rfl, rfl, by decide +kernel, rfl, by decide +kernel, by decide +kernel⟩
theorem ok__law_draw {f : Addr} {fd : FuncData} (F : Fun K "_law_draw" "_law_draw" s__law_draw f fd) (T : Txt K mg) {f__law_spread : Addr} {fd__law_spread : FuncData} (C__law_spread : Cal P w K mg base "_law_spread" f__law_spread fd__law_spread ["cell"] (sp__law_spread K) 1) : FnOk P w K mg base CX0 2 f fd ["pool", "many"] (sp__law_draw K) := by
  refine F.ok sc__law_draw (fun vs H Q E h => ?_) (fun cdv A outer s H vs Q E hr h => ?_)
  · obtain ⟨p, l, m, rfl, hm, hm2, hP, q⟩ := h
    rfl
  · obtain ⟨p, l, m, rfl, hm, hm2, hP, q⟩ := h
    refine ⟨_, (pss_cons (ps_if ((pw_and (pt_cmpR op_le (pe_ix (ixSeqK (K := K) rfl) (pv 0) pe_int (fun _ _ => rfl)) pe_int (nomark _)) (pw_and1 (pt_cmpR (opLtG (K := K) rfl hr.units) (pe_ix (ixSeqK (K := K) rfl) (pv 0) pe_int (fun _ _ => rfl)) (pe_callB (callLenK (K := K) rfl) (by rfl) T.z_len (by decide +kernel) (pa_cons (pe_ix (ixSeqK (K := K) rfl) (pv 0) pe_int (fun _ _ => rfl)) pa_nil)) (nomark _))))).pt (pss_cons (ps_set (i := 2) sc__law_draw.nd rfl (by first | exact Or.inl rfl | exact Or.inr rfl) (pe_ix (ixSeqK (K := K) rfl) (pe_ix (ixSeqK (K := K) rfl) (pv 0) pe_int (fun _ _ => rfl)) (pe_ix (ixSeqK (K := K) rfl) (pv 0) pe_int (fun _ _ => rfl)) (fun _ _ => rfl)))
      (pss_cons (ps_asg (pe_op (opAddK (K := K) rfl) (pe_ix (ixSeqK (K := K) rfl) (pv 0) pe_int (fun _ _ => rfl)) pe_int) (pg_sub (pv 0) pe_int set_list))
      (pss_cons (ps_asg (pv 2) (pg_sub (pv 0) pe_int set_list))
      (pss_one (ps_if (pt_cmpR (opLtG (K := K) rfl hr.units) (pv 2) pe_int (nomark _)) (pss_one (ps_asg (pe_call C__law_spread.G (hr.mono (by first | decide | omega)) (by rfl) C__law_spread.m C__law_spread.kp C__law_spread.b .nil pass0 (pa_cons (pv 2) pa_nil)) (pg_sub (pv 0) pe_int set_list))) pss_nil))))) pss_nil)
      (pss_cons (ps_asg (pe_op (opAddK (K := K) rfl) (pe_ix (ixSeqK (K := K) rfl) (pv 0) pe_int (fun _ _ => rfl)) pe_int) (pg_sub (pv 0) pe_int set_list))
      (pss_cons (ps_if (pt_cmpR op_le (pe_ix (ixSeqK (K := K) rfl) (pv 0) pe_int (fun _ _ => rfl)) pe_int (nomark _)) (pss_cons (ps_set (i := 3) sc__law_draw.nd rfl (by first | exact Or.inl rfl | exact Or.inr rfl) (pe_op op_mod (pe_callTy callInt1 (by rfl) T.z_int (by decide +kernel) (pa_cons (pe_op (opAddK (K := K) rfl) (pe_op (opAddK (K := K) rfl) (pe_op opMul (pe_ix (ixSeqK (K := K) rfl) (pv 0) pe_int (fun _ _ => rfl)) pe_int) (pe_op opMul (pe_ix (ixSeqK (K := K) rfl) (pv 0) pe_int (fun _ _ => rfl)) pe_int)) pe_int) pa_nil)) pe_int))
      (pss_cons (ps_set (i := 3) sc__law_draw.nd rfl (by first | exact Or.inl rfl | exact Or.inr rfl) (pe_op op_mod (pe_callTy callInt1 (by rfl) T.z_int (by decide +kernel) (pa_cons (pe_op (opAddK (K := K) rfl) (pe_op opMul (pv 3) pe_int) (pe_ix (ixSeqK (K := K) rfl) (pv 0) pe_int (fun _ _ => rfl))) pa_nil)) pe_int))
      (pss_one (ps_ret (pe_op op_mod (pe_op op_fdivW (pv 3) pe_int) (pv 1)))))) pss_nil)
      (pss_cons (ps_set (i := 4) sc__law_draw.nd rfl (by first | exact Or.inl rfl | exact Or.inr rfl) (pe_op op_mod (pe_callTy callInt1 (by rfl) T.z_int (by decide +kernel) (pa_cons (pe_ix (ixSeqK (K := K) rfl) (pv 0) pe_int (fun _ _ => rfl)) pa_nil)) (pv 1)))
      (pss_cons (ps_asg (pe_op op_fdivW (pe_ix (ixSeqK (K := K) rfl) (pv 0) pe_int (fun _ _ => rfl)) (pv 1)) (pg_sub (pv 0) pe_int set_list))
      (pss_one (ps_ret (pv 4)))))))), ?_⟩
    obtain ⟨ns, a, b, c, d, hp, hl, hn, ha, hb⟩ := hP
    walk_at "R"
    refine w_cut (fun σ' H' => ∃ (y : Option V) (a b : Int), σ' = [some (.ref p), some (.int m), y, none, none] ∧ But p H H' ∧ H' p = some (.lst [.ref l, .int a, .int b, .int c, .int d]) ∧ 0 ≤ a ∧ 0 ≤ b) (fun σ' H' hr1 => ?_) (fun N hN => ?_)
    · obtain ⟨y, a, b, rfl, e1, hp1, ha, hb⟩ := hr1
      have hl1 : H' l = some (.lst (ns.map V.int)) := e1 _ _ (fun z => by
        rw [z, hp] at hl
        cases ns with
        | nil => cases hl
        | cons n ns => cases hl) hl
      walk_at "R"
      refine k_sub2G 3 rfl hp1 (by simp) (fun H2 e2 (hp2 : H2 p = some (.lst [.ref l, .int a, .int b, .int (c + 1), .int d])) => ?_)
      have hlp : l ≠ p := fun z => by
        rw [z, hp] at hl
        cases ns with
        | nil => cases hl
        | cons n ns => cases hl
      have hl2 : H2 l = some (.lst (ns.map V.int)) := e2 _ _ hlp hl1
      walk_at "RR"
      refine k_ifS (fun h0 => ?_) (fun h0 => ?_)
      · walk_at "RR"
        exact q _ _ (Int.emod_nonneg _ (by omega)) (Int.emod_lt_of_pos _ hm) (e1.trans e2) ⟨ns, a, b, c + 1, d, hp2, hl2, hn, ha, hb⟩
      · walk_at "RR"
        refine k_sub2G 2 rfl hp2 (by simp) (fun H3 e3 (hp3 : H3 p = some (.lst [.ref l, .int a, .int (b / m), .int (c + 1), .int d])) => ?_)
        walk_at "RR"
        exact q _ _ (Int.emod_nonneg _ (by omega)) (Int.emod_lt_of_pos _ hm) ((e1.trans e2).trans e3) ⟨ns, a, b / m, c + 1, d, hp3, e3 _ _ hlp hl2, hn, ha, Int.ediv_nonneg hb (by omega)⟩
    · refine w_ifS ?_
      walk_at "R"
      refine k_and (fun h0 => ?_) (fun h0 => ?_)
      · walk_at "R"
        refine k_ifS (fun h1 => ?_) (fun h1 => ?_)
        · obtain ⟨k, rfl⟩ := Int.eq_ofNat_of_zero_le ha
          have h2 := of_decide_eq_true h1
          rw [List.length_map] at h2
          have hk : k < ns.length := by omega
          have hx : (ns.map V.int)[k]? = some (.int ns[k]) := by
            rw [List.getElem?_map, List.getElem?_eq_getElem hk]
            rfl
          have hlp : l ≠ p := fun z => by
            rw [z, hp] at hl
            cases ns with
            | nil => cases hl
            | cons n ns => cases hl
          walk_at "R"
          refine k_sub2G 1 rfl hp (by simp) (fun H2 e2 (hp2 : H2 p = some (.lst [.ref l, .int (k + 1), .int b, .int c, .int d])) => ?_)
          walk_at "R"
          refine k_sub2G 2 rfl hp2 (by simp) (fun H3 e3 (hp3 : H3 p = some (.lst [.ref l, .int (k + 1), .int ns[k], .int c, .int d])) => ?_)
          walk_at "RR"
          refine k_ifS (fun h3 => ?_) (fun h3 => ?_)
          · walk_at "R"
            refine ⟨_, rfl, fun v hv => ?_⟩
            walk_at "R"
            refine k_sub2G 2 rfl hp3 (by simp) (fun H4 e4 (hp4 : H4 p = some (.lst [.ref l, .int (k + 1), .int v, .int c, .int d])) => ?_)
            walk_at "R"
            exact hN _ _ ⟨_, _, _, rfl, (e2.trans e3).trans e4, hp4, by omega, by omega⟩
          · have h4 := of_decide_eq_false h3
            walk_at "R"
            exact hN _ _ ⟨_, _, _, rfl, e2.trans e3, hp3, by omega, by omega⟩
        · walk_at "R"
          exact hN _ _ ⟨none, a, b, rfl, But.refl _ _, hp, ha, hb⟩
      · walk_at "R"
        exact hN _ _ ⟨none, a, b, rfl, But.refl _ _, hp, ha, hb⟩

theorem sc_cranes_needed : FnScope ["works", "most", "many", "load", "work"] ["works", "most"] (defScope s_cranes_needed) := ⟨rfl, rfl, rfl, by decide +kernel, rfl, by decide +kernel, by decide +kernel⟩
theorem ok_cranes_needed {f : Addr} {fd : FuncData} (F : Fun K "cranes_needed" "cranes_needed" s_cranes_needed f fd) (T : Txt K mg) : FnOk P w K mg base CX0 1 f fd ["works", "most"] (sp_cranes_needed K) := by
  refine F.ok sc_cranes_needed (fun vs H Q E h => ?_) (fun cdv A outer s H vs Q E hr h => ?_)
  · obtain ⟨w', ws, M, rfl, hw, q⟩ := h
    rfl
  · obtain ⟨w', ws, M, rfl, hw, q⟩ := h
    refine ⟨_, (pss_cons (ps_set (i := 2) sc_cranes_needed.nd rfl (by first | exact Or.inl rfl | exact Or.inr rfl) pe_int)
      (pss_cons (ps_set (i := 3) sc_cranes_needed.nd rfl (by first | exact Or.inl rfl | exact Or.inr rfl) pe_int)
      (pss_cons (ps_for PassesOwn.never rfl (piSeqK (K := K) rfl (pv 0)) (pg_name (i := 4) sc_cranes_needed.nd rfl (by first | exact Or.inl rfl | exact Or.inr rfl)) (pss_cons (ps_if ((pw_or (pt_cmpR (opEqK (K := K) rfl hr.units) (pv 2) pe_int (nomark _)) (pw_or1 (pt_cmpR op_gt (pe_op (opAddK (K := K) rfl) (pv 3) (pv 4)) (pv 1) (nomark _))))).pt (pss_cons (ps_aug (i := 2) sc_cranes_needed.nd rfl (by first | exact Or.inl rfl | exact Or.inr rfl) pe_int ip_add)
      (pss_one (ps_set (i := 3) sc_cranes_needed.nd rfl (by first | exact Or.inl rfl | exact Or.inr rfl) pe_int))) pss_nil)
      (pss_one (ps_aug (i := 3) sc_cranes_needed.nd rfl (by first | exact Or.inl rfl | exact Or.inr rfl) (pv 4) ip_add))))
      (pss_one (ps_ret (pv 2)))))), ?_⟩
    walk_at "R"
    refine w_forT ?_
    walk_at "R"
    refine k_forT (fun i σ H' => ∃ y4, σ = [some (.ref w'), some (.int M), some (.int (((ws.take i).foldl (needStep M) (0, 0)).1 : Nat)), some (.int ((ws.take i).foldl (needStep M) (0, 0)).2), y4] ∧ H' = H) hw ⟨none, rfl, rfl⟩ ?_ ?_ ?_
    · rintro i σ H' _ ⟨_, rfl, rfl⟩
      exact hw
    · rintro i x σ H1 hx ⟨y4, rfl, rfl⟩
      have hi : i < ws.length := by
        have := (List.getElem?_eq_some_iff.mp hx).1
        rw [List.length_map] at this
        exact this
      rw [List.getElem?_map, List.getElem?_eq_getElem hi] at hx
      obtain rfl := Option.some.inj hx
      have htk := take_snoc (List.getElem?_eq_getElem hi)
      have hst : (ws.take (i + 1)).foldl (needStep M) (0, 0) = needStep M ((ws.take i).foldl (needStep M) (0, 0)) ws[i] := by
        rw [htk, List.foldl_append]
        rfl
      rw [hst]
      generalize (ws.take i).foldl (needStep M) (0, 0) = st
      obtain ⟨many, load⟩ := st
      generalize ws[i] = x
      walk_at "R"
      refine w_ifS ?_
      walk_at "R"
      refine k_or (fun z => ?_) (fun z => ?_)
      · have hz := of_decide_eq_true z
        have e : needStep M (many, load) x = (many + 1, x) := if_pos (.inl (by show many = 0; omega))
        rw [e]
        walk_at "R"
        exact ⟨_, by rw [Int.zero_add]; rfl, rfl⟩
      · have hz := of_decide_eq_false z
        walk_at "R"
        refine k_ifS (fun z2 => ?_) (fun z2 => ?_)
        · have hz2 := of_decide_eq_true z2
          have e : needStep M (many, load) x = (many + 1, x) := if_pos (.inr hz2)
          rw [e]
          walk_at "R"
          exact ⟨_, by rw [Int.zero_add]; rfl, rfl⟩
        · have hz2 := of_decide_eq_false z2
          have e : needStep M (many, load) x = (many, load + x) := if_neg (by
            rintro (z | z)
            · have z : many = 0 := z
              omega
            · exact hz2 z)
          rw [e]
          walk_at "R"
          exact ⟨_, rfl, rfl⟩
    · rintro σ H1 ⟨y4, rfl, rfl⟩
      rw [List.length_map, List.take_length, need_run]
      walk_at "R"
      exact q

theorem sc_least_load : FnScope ["works", "cranes", "ends", "sums", "end", "begin", "usable", "load"] ["works", "cranes"] (defScope s_least_load) := ⟨rfl, rfl, rfl, by decide +kernel, rfl, by decide +kernel, by decide +kernel⟩
theorem ok_least_load {f : Addr} {fd : FuncData} (F : Fun K "least_load" "least_load" s_least_load f fd) (T : Txt K mg) {f_cranes_needed : Addr} {fd_cranes_needed : FuncData} (C_cranes_needed : Cal P w K mg base "cranes_needed" f_cranes_needed fd_cranes_needed ["works", "most"] (sp_cranes_needed K) 1) : FnOk P w K mg base CX0 2 f fd ["works", "cranes"] (sp_least_load K) := by
  refine F.ok sc_least_load (fun vs H Q E h => ?_) (fun cdv A outer s H vs Q E hr h => ?_)
  · obtain ⟨w', ws, c, rfl, hW, hc1, hc6, q⟩ := h
    rfl
  · obtain ⟨w', ws, c, rfl, hW, hc1, hc6, q⟩ := h
    refine ⟨_, (pss_cons (ps_set (i := 2) sc_least_load.nd rfl (by first | exact Or.inl rfl | exact Or.inr rfl) (pe_callTy callRange1 (by rfl) T.z_range (by decide +kernel) (pa_cons (pe_op (opAddK (K := K) rfl) (pe_callB (callLenK (K := K) rfl) (by rfl) T.z_len (by decide +kernel) (pa_cons (pv 0) pa_nil)) pe_int) pa_nil)))
      (pss_cons (ps_setLc2 (i := 3) (own := [("end", 4), ("begin", 5)]) (vs1 := [5]) (by rfl) sc_least_load.nd rfl rfl (sw_true rfl rfl rfl (by decide +kernel)) (piRngV (pv 2)) (blkOk_by (own := [("end", 4), ("begin", 5)]) (N := ["works", "cranes", "ends", "sums", "end", "begin", "usable", "load"]) (sc := defScope s_least_load) (by decide +kernel)) (by decide) (fun _ _ _ _ _ => (pg_name (i := 4) sc_least_load.nd rfl (by first | exact Or.inl rfl | exact Or.inr rfl))) (fun _ _ _ _ _ => pts_nil) (fun _ _ _ _ _ => (pi_range1 (by rfl) T.z_range (pa_cons (pv 4) pa_nil))) (fun _ _ _ _ _ => (pg_name (i := 5) sc_least_load.nd rfl (by first | exact Or.inl rfl | exact Or.inr rfl))) (fun _ _ _ _ _ => pts_nil) (fun _ _ _ _ _ => (pe_callB (callSumG (K := K) rfl rfl) (by rfl) T.z_sum (by decide +kernel) (pa_cons (pe_slice (slAnyK (K := K) rfl) (pv 0) (po_some (pv 5)) (po_some (pv 4))) pa_nil))))
      (pss_cons (ps_setLc (i := 6) (own := [("load", 7)]) (by rfl) sc_least_load.nd rfl rfl (sw_true rfl rfl rfl (by decide +kernel)) (piSeqK (K := K) rfl (pv 3)) (blkOk_by (own := [("load", 7)]) (N := ["works", "cranes", "ends", "sums", "end", "begin", "usable", "load"]) (sc := defScope s_least_load) (by decide +kernel)) (fun _ _ _ _ _ => (pg_name (i := 7) sc_least_load.nd rfl (by first | exact Or.inl rfl | exact Or.inr rfl))) (fun _ _ _ _ _ => (pts_one ((pw_and (pt_cmpR op_ge (pv 7) (pe_callB (callMaxG (K := K) rfl rfl) (by rfl) T.z_max (by decide +kernel) (pa_cons (pv 0) pa_nil)) (nomark _)) (pw_and1 (pt_cmpR op_le (pe_call C_cranes_needed.G (hr.mono (by first | decide | omega)) (by rfl) C_cranes_needed.m C_cranes_needed.kp C_cranes_needed.b .nil pass0 (pa_cons (pv 0) (pa_cons (pv 7) pa_nil))) (pv 1) (nomark _))))).pt)) (fun _ _ _ _ _ => (pv 7)))
      (pss_one (ps_ret (pe_callB (callMinG (K := K) rfl rfl) (by rfl) T.z_min (by decide +kernel) (pa_cons (pv 6) pa_nil))))))), ?_⟩
    have tw := hW.t
    have l1 := hW.l1
    have l12 := hW.l12
    walk_at "R"
    rw [List.length_map]
    refine o_range1 (fun tr H1 ntr e1 htr => ?_)
    walk_at "R"
    refine w_lc2V ?_
    walk_at "R"
    refine k_lc2V0 htr (by omega) (fun dd hdd => ⟨fun e H' => ∃ ss : List Int, H' dd = some (.lst (ss.map V.int)) ∧ Same H1 H' ∧ ss.length ≤ 13 * e ∧ ∀ z, z ∈ ss ↔ ∃ i j, i < j ∧ j < e ∧ z = seg ws i j, ?_, ?_, ?_⟩)
    · exact ⟨[], upd_same, same_new hdd, Nat.zero_le _, fun z => ⟨fun z => (by cases z), fun ⟨i, j, _, h, _⟩ => absurd h (Nat.not_lt_zero j)⟩⟩
    · rintro e H2 he ⟨ss, h1, e2, h3, h4⟩
      walk_at "R"
      refine k_turn2 rfl (k_yes2 (w_in2R1 ?_))
      walk_at "R"
      refine k_in2R1 (by omega) (fun i H' => ∃ ss : List Int, H' dd = some (.lst (ss.map V.int)) ∧ Same H1 H' ∧ ss.length ≤ 13 * e + i ∧ ∀ z, z ∈ ss ↔ (∃ i j, i < j ∧ j < e ∧ z = seg ws i j) ∨ ∃ k, k < i ∧ z = seg ws k e) ⟨ss, h1, e2, h3, fun z => by
        rw [h4]
        exact ⟨.inl, fun h => h.elim id fun ⟨k, h, _⟩ => absurd h (Nat.not_lt_zero k)⟩⟩ ?_ ?_
      · rintro i H3 hi ⟨ss3, h31, e3, h33, h34⟩
        have tw3 := Same.seqT (e1.trans e3) tw
        walk_at "R"
        refine o_slTR tw3 (by omega) (by omega) (fun q3 H4 e4 hq4 => ?_)
        walk_at "R"
        refine o_sumT hq4 ?_
        refine k_elt (e4 _ _ h31) (by rw [List.length_map]; omega) ⟨ss3 ++ [seg ws i e], by rw [upd_same, List.map_append]; rfl, Same.mut (e3.trans e4) hdd, by rw [List.length_append, List.length_singleton]; omega, fun z => ?_⟩
        rw [List.mem_append, List.mem_singleton, h34]
        constructor
        · rintro ((h | ⟨k, hk, hz⟩) | h)
          · exact .inl h
          · exact .inr ⟨k, by omega, hz⟩
          · exact .inr ⟨i, Nat.lt_succ_self i, h⟩
        · rintro (h | ⟨k, hk, hz⟩)
          · exact .inl (.inl h)
          · by_cases e5 : k = i
            · exact .inr (by rw [hz, e5])
            · exact .inl (.inr ⟨k, by omega, hz⟩)
      · rintro H3 ⟨ss3, h31, e3, h33, h34⟩
        rw [Int.toNat_natCast] at h33 h34
        refine ⟨ss3, h31, e3, by omega, fun z => ?_⟩
        rw [h34]
        constructor
        · rintro (⟨i, j, a1, a2, a3⟩ | ⟨k, a1, a2⟩)
          · exact ⟨i, j, a1, by omega, a3⟩
          · exact ⟨k, e, a1, Nat.lt_succ_self e, a2⟩
        · rintro ⟨i, j, a1, a2, a3⟩
          by_cases e5 : j = e
          · rw [e5] at a1 a3
            exact .inr ⟨i, a1, a3⟩
          · exact .inl ⟨i, j, a1, by omega, a3⟩
    · rintro H2 ⟨ss, h1, e2, h3, h4⟩
      rw [show (((ws.length : Nat) : Int) + 1).toNat = ws.length + 1 by omega] at h3 h4
      have tw2 := Same.seqT (e1.trans e2) tw
      walk_at "R"
      refine w_lcL ?_
      walk_at "R"
      refine k_lcL (SqL.of h1) (fun d2 hd2 => ⟨fun i H' => ∃ us : List Int, H' d2 = some (.lst (us.map V.int)) ∧ Same H2 H' ∧ us.length ≤ i ∧ ∀ z, z ∈ us ↔ (∃ j : Nat, j < i ∧ ss[j]? = some z) ∧ (∀ x ∈ ws, x ≤ z) ∧ needN z ws ≤ c, ?_, ?_, ?_, ?_⟩)
      · exact ⟨[], upd_same, same_new hd2, Nat.zero_le _, fun z => ⟨fun z => (by cases z), fun ⟨⟨j, h, _⟩, _⟩ => absurd h (Nat.not_lt_zero j)⟩⟩
      · rintro i H' _ ⟨_, _, h, _⟩
        exact h.seq (SqL.of h1)
      · rintro i x H3 hx ⟨us, g1, e3, g3, g4⟩
        have hi : i < ss.length := by
          have := (List.getElem?_eq_some_iff.mp hx).1
          rw [List.length_map] at this
          exact this
        rw [List.getElem?_map, List.getElem?_eq_getElem hi] at hx
        obtain rfl := Option.some.inj hx
        have hsi := List.getElem?_eq_getElem hi
        generalize ss[i] = ld at hsi
        have tw3 := Same.seqT e3 tw2
        have hno : ¬ ((∀ x ∈ ws, x ≤ ld) ∧ needN ld ws ≤ c) → ∀ z, z ∈ us ↔ (∃ j : Nat, j < i + 1 ∧ ss[j]? = some z) ∧ (∀ x ∈ ws, x ≤ z) ∧ needN z ws ≤ c := fun hn z => by
          rw [g4]
          constructor
          · rintro ⟨⟨j, a1, a2⟩, a3⟩
            exact ⟨⟨j, by omega, a2⟩, a3⟩
          · rintro ⟨⟨j, a1, a2⟩, a3⟩
            by_cases e5 : j = i
            · rw [e5, hsi] at a2
              rw [← Option.some.inj a2] at a3
              exact absurd a3 hn
            · exact ⟨⟨j, by omega, a2⟩, a3⟩
        walk_at "R"
        refine o_maxT tw3 (by omega) (fun mx hm1 hm2 => ?_)
        walk_at "R"
        refine k_and (fun z => ?_) (fun z => ?_)
        · have hz := of_decide_eq_true z
          walk_at "R"
          refine ⟨_, ws, _, rfl, tw3, ?_⟩
          walk_at "R"
          refine k_tst (fun z2 => ?_) (fun z2 => ?_)
          · have hz2 := of_decide_eq_true z2
            walk_at "R"
            refine k_elt g1 (by rw [List.length_map]; omega) ⟨us ++ [ld], by rw [upd_same, List.map_append]; rfl, Same.mut e3 hd2, by rw [List.length_append, List.length_singleton]; omega, fun z => ?_⟩
            rw [List.mem_append, List.mem_singleton, g4]
            constructor
            · rintro (⟨⟨j, a1, a2⟩, a3⟩ | rfl)
              · exact ⟨⟨j, by omega, a2⟩, a3⟩
              · exact ⟨⟨i, Nat.lt_succ_self i, hsi⟩, fun x hx => Int.le_trans (hm2 x hx) hz, by omega⟩
            · rintro ⟨⟨j, a1, a2⟩, a3⟩
              by_cases e5 : j = i
              · rw [e5, hsi] at a2
                exact .inr (Option.some.inj a2).symm
              · exact .inl ⟨⟨j, by omega, a2⟩, a3⟩
          · have hz2 := of_decide_eq_false z2
            exact ⟨us, g1, e3, by omega, hno fun z => hz2 (by have := z.2; omega)⟩
        · have hz := of_decide_eq_false z
          walk_at "R"
          exact ⟨us, g1, e3, by omega, hno fun z => hz (z.1 _ hm1)⟩
      · rintro H3 ⟨us, g1, e3, g3, g4⟩
        have hall : ∀ z, z ∈ us ↔ (∃ i j, i < j ∧ j ≤ ws.length ∧ z = seg ws i j) ∧ (∀ x ∈ ws, x ≤ z) ∧ needN z ws ≤ c := fun z => by
          rw [g4]
          have : (∃ j : Nat, j < (ss.map V.int).length ∧ ss[j]? = some z) ↔ z ∈ ss := by
            rw [List.length_map]
            constructor
            · rintro ⟨j, _, a2⟩
              exact List.mem_of_getElem? a2
            · intro hz
              obtain ⟨j, hj⟩ := List.getElem?_of_mem hz
              exact ⟨j, (List.getElem?_eq_some_iff.mp hj).1, hj⟩
          rw [this, h4]
          constructor
          · rintro ⟨⟨i, j, a1, a2, a3⟩, a4⟩
            exact ⟨⟨i, j, a1, by omega, a3⟩, a4⟩
          · rintro ⟨⟨i, j, a1, a2, a3⟩, a4⟩
            exact ⟨⟨i, j, a1, by omega, a3⟩, a4⟩
        have hnn : ∀ x ∈ ws, 0 ≤ x := fun x hx => (hW.b x hx).1
        have hsum : ws.sum ∈ us := (hall _).mpr ⟨⟨0, ws.length, by omega, Nat.le_refl _, by unfold seg; rw [List.drop_zero, Nat.sub_zero, List.take_length]⟩, fun x hx => mem_le_sum hnn hx, by
          have := (Split.cons (M := ws.sum) (a := ws) (b := []) (Int.le_refl _) .nil)
          rw [List.append_nil] at this
          exact Nat.le_trans (this.need hnn) (by omega)⟩
        walk_at "R"
        refine o_minL (SqL.of g1) (List.length_pos_of_mem hsum) (fun M hM1 hM2 => ?_)
        obtain ⟨a1, a2, a3⟩ := (hall M).mp hM1
        exact q M H3 (e1.trans (e2.trans e3)) ⟨a1, a2, a3, fun i j b1 b2 b3 b4 => hM2 _ ((hall _).mpr ⟨⟨i, j, b1, b2, rfl⟩, b3, b4⟩)⟩

theorem sc_best_share : FnScope ["works", "cranes", "most", "share", "left", "ends", "end"] ["works", "cranes"] (defScope s_best_share) := ⟨rfl, rfl, rfl, by decide +kernel, rfl, by decide +kernel, by decide +kernel⟩
theorem ok_best_share {f : Addr} {fd : FuncData} (F : Fun K "best_share" "best_share" s_best_share f fd) (T : Txt K mg) {f_least_load : Addr} {fd_least_load : FuncData} (C_least_load : Cal P w K mg base "least_load" f_least_load fd_least_load ["works", "cranes"] (sp_least_load K) 2) {f_cranes_needed : Addr} {fd_cranes_needed : FuncData} (C_cranes_needed : Cal P w K mg base "cranes_needed" f_cranes_needed fd_cranes_needed ["works", "most"] (sp_cranes_needed K) 1) : FnOk P w K mg base CX0 3 f fd ["works", "cranes"] (sp_best_share K) := by
  refine F.ok sc_best_share (fun vs H Q E h => ?_) (fun cdv A outer s H vs Q E hr h => ?_)
  · obtain ⟨w', ws, c, rfl, hW, hc1, hc6, q⟩ := h
    rfl
  · obtain ⟨w', ws, c, rfl, hW, hc1, hc6, q⟩ := h
    refine ⟨_, (pss_cons (ps_set (i := 2) sc_best_share.nd rfl (by first | exact Or.inl rfl | exact Or.inr rfl) (pe_call C_least_load.G (hr.mono (by first | decide | omega)) (by rfl) C_least_load.m C_least_load.kp C_least_load.b .nil pass0 (pa_cons (pv 0) (pa_cons (pv 1) pa_nil))))
      (pss_cons (ps_set (i := 3) sc_best_share.nd rfl (by first | exact Or.inl rfl | exact Or.inr rfl) (pe_lst (pa_cons pe_int pa_nil)))
      (pss_cons (ps_for PassesOwn.never rfl (pi_revR (by rfl) T.z_reversed (prg_1 (by rfl) T.z_range (pv 1))) (pg_name (i := 4) sc_best_share.nd rfl (by first | exact Or.inl rfl | exact Or.inr rfl)) (pss_cons (ps_set (i := 5) sc_best_share.nd rfl (by first | exact Or.inl rfl | exact Or.inr rfl) (pe_callTy callRange2 (by rfl) T.z_range (by decide +kernel) (pa_cons (pe_ix (ixSeqK (K := K) rfl) (pv 3) (pe_un un_neg pe_int) (fun _ _ => rfl)) (pa_cons (pe_op (opAddK (K := K) rfl) (pe_callB (callLenK (K := K) rfl) (by rfl) T.z_len (by decide +kernel) (pa_cons (pv 0) pa_nil)) pe_int) pa_nil))))
      (pss_one (ps_expr (peBmCast (K := K) rfl (pe_bm PySem.F.plainAttrs_list PySem.F.slot_list_append PySem.F.type_list_append mt_append (pv 3) (pa_cons (pe_callB (callMinG (K := K) rfl rfl) (by rfl) T.z_min (by decide +kernel) (pa_cons (pe_lc (own := [("end", 6)]) (by rfl) sc_best_share.nd (piRngV (pv 5)) (blkOk_by (own := [("end", 6)]) (N := ["works", "cranes", "most", "share", "left", "ends", "end"]) (sc := defScope s_best_share) (by decide +kernel)) (fun _ _ _ _ _ => (pg_name (i := 6) sc_best_share.nd rfl (by first | exact Or.inl rfl | exact Or.inr rfl))) (fun _ _ _ _ _ => (pts_one (pt_cmpR op_le (pe_call C_cranes_needed.G (hr.mono (by first | decide | omega)) (by rfl) C_cranes_needed.m C_cranes_needed.kp C_cranes_needed.b .nil pass0 (pa_cons (pe_slice (slAnyK (K := K) rfl) (pv 0) (po_some (pv 6)) po_none) (pa_cons (pv 2) pa_nil))) (pv 4) (nomark _)))) (fun _ _ _ _ _ => (pv 6))) pa_nil)) pa_nil)))))))
      (pss_one (ps_ret (pe_callTy (callTupOfK (K := K) rfl) (by rfl) T.z_tuple (by decide +kernel) (pa_cons (pv 3) pa_nil))))))), ?_⟩
    have tw := hW.t
    have l1 := hW.l1
    have l12 := hW.l12
    walk_at "R"
    refine ⟨_, ws, c, rfl, hW, hc1, hc6, fun M H1 e1 B => ?_⟩
    have hb : ∀ x ∈ ws, 0 ≤ x ∧ x ≤ M := fun x hx => ⟨(hW.b x hx).1, B.max x hx⟩
    have hM : 0 ≤ M := by
      obtain ⟨x, hx⟩ := List.exists_mem_of_ne_nil _ hW.ne
      have := hb x hx
      omega
    walk_at "R"
    refine k_lst (by simp) (fun f H2 nf e2 hf => ?_)
    walk_at "R"
    refine w_forV ?_
    walk_at "R"
    refine k_forV (fun k σ H' => ∃ (y4 y5 y6 : Option V) (sh : List Nat), σ = [some (.ref w'), some (.int (c : Nat)), some (.int M), some (.ref f), y4, y5, y6] ∧ Same H1 H' ∧ H' f = some (.lst (sh.map nV)) ∧ ShPart ws M c k sh ∧ LeastTo ws M c k sh) (by omega) ⟨none, none, none, [0], rfl, e2, hf, ShPart.start B.need, fun i h => absurd h (Nat.not_lt_zero i)⟩ ?_ ?_
    · rintro k σ H3 hk ⟨y4, y5, y6, sh, rfl, e3, hf3, S, L⟩
      have hkc : k < c := by omega
      have x1 := S.at_last
      have htop := S.top
      have hlen := S.len
      have tw3 := Same.seqT (e1.trans e3) tw
      obtain ⟨j1, hj1, hj2⟩ := S.exists hkc hb hM
      have hnext := fun j0 a b d => S.next (j0 := j0) hkc hb hM a b d
      have hleast := fun x hx => L.snoc (x := x) hlen hx
      walk_at "R"
      rw [List.length_map]
      generalize hlo : sh.getD k 0 = lo at *
      refine o_range2 (fun tr H4 ntr e4 htr => ?_)
      walk_at "R"
      refine k_bmL (SqL.of (e4 _ _ hf3)) ?_
      walk_at "R"
      refine w_lcV ?_
      walk_at "R"
      refine k_lcV2 htr (by omega) (fun dd hdd => ⟨fun i H' => ∃ es : List Int, H' dd = some (.lst (es.map V.int)) ∧ Same H4 H' ∧ es.length ≤ i ∧ ∀ z, z ∈ es ↔ ∃ j : Nat, j < i ∧ z = ((lo + j : Nat) : Int) ∧ needN M (ws.drop (lo + j)) ≤ c - 1 - k, ?_, ?_, ?_⟩)
      · exact ⟨[], upd_same, same_new hdd, Nat.zero_le _, fun z => ⟨fun z => (by cases z), fun ⟨j, h, _⟩ => absurd h (Nat.not_lt_zero j)⟩⟩
      · rintro i H5 hi ⟨es, g1, e5, g3, g4⟩
        have ec : ((lo : Nat) : Int) + (i : Int) = ((lo + i : Nat) : Int) := by omega
        rw [ec]
        have tw5 := Same.seqT (e4.trans e5) tw3
        walk_at "R"
        refine slT_from tw5 (by omega) (fun q6 H6 e6 hq6 => ?_)
        walk_at "R"
        refine ⟨_, ws.drop (lo + i), M, rfl, hq6, ?_⟩
        walk_at "R"
        refine k_tst (fun z => ?_) (fun z => ?_)
        · have hz := of_decide_eq_true z
          walk_at "R"
          refine k_elt (e6 _ _ g1) (by rw [List.length_map]; omega) ⟨es ++ [((lo + i : Nat) : Int)], by rw [upd_same, List.map_append]; rfl, Same.mut (e5.trans e6) hdd, by rw [List.length_append, List.length_singleton]; omega, fun z => ?_⟩
          rw [List.mem_append, List.mem_singleton, g4]
          constructor
          · rintro (⟨j, a1, a2⟩ | a1)
            · exact ⟨j, by omega, a2⟩
            · exact ⟨i, Nat.lt_succ_self i, a1, by omega⟩
          · rintro ⟨j, a1, a2, a3⟩
            by_cases e : j = i
            · exact .inr (by rw [a2, e])
            · exact .inl ⟨j, by omega, a2, a3⟩
        · have hz := of_decide_eq_false z
          refine ⟨es, e6 _ _ g1, e5.trans e6, by omega, fun z => ?_⟩
          rw [g4]
          constructor
          · rintro ⟨j, a1, a2⟩
            exact ⟨j, by omega, a2⟩
          · rintro ⟨j, a1, a2, a3⟩
            by_cases e : j = i
            · rw [e] at a3
              exact absurd (show ((needN M (ws.drop (lo + i)) : Nat) : Int) ≤ (c : Int) - 1 - (k : Int) by omega) hz
            · exact ⟨j, by omega, a2, a3⟩
      · rintro H5 ⟨es, g1, e5, g3, g4⟩
        have hn : (((ws.length : Nat) : Int) + 1 - ((lo : Nat) : Int)).toNat = ws.length + 1 - lo := by omega
        rw [hn] at g3 g4
        have hmem : ((lo + j1 : Nat) : Int) ∈ es := (g4 _).mpr ⟨j1, by omega, rfl, hj2⟩
        walk_at "R"
        refine o_minL (SqL.of g1) (List.length_pos_of_mem hmem) (fun mn hm1 hm2 => ?_)
        obtain ⟨j0, a1, rfl, a3⟩ := (g4 mn).mp hm1
        have hS := hnext j0 (by omega) a3 fun j b1 b2 => by
          have := hm2 _ ((g4 _).mpr ⟨j, by omega, rfl, b2⟩)
          omega
        have hL := hleast (lo + j0) fun e b1 b2 b3 => by
          have := hm2 _ ((g4 (e : Int)).mpr ⟨e - lo, by omega, by omega, by rw [show lo + (e - lo) = e by omega]; exact b3⟩)
          omega
        have hf5 := e5 _ _ (e4 _ _ hf3)
        walk_at "R"
        refine o_app hf5 (by rw [List.length_map]; omega) ?_
        walk_at "R"
        refine ⟨_, _, _, sh ++ [lo + j0], rfl, ?_, ?_, hS, hL⟩
        · have nf1 : H1 f = none := nf
          exact Same.mut (e3.trans (e4.trans e5)) nf1
        · rw [upd_same, List.map_append]
          rfl
    · rintro σ H3 ⟨y4, y5, y6, sh, rfl, e3, hf3, S, L⟩
      rw [Int.toNat_natCast] at S L
      walk_at "R"
      refine o_tupL (SqL.of hf3) (fun t H4 nt e4 ht => ?_)
      exact q M t sh H4 (e1.trans (e3.trans e4)) ht B S L

theorem sc__law_works : FnScope ["pool", "top", "k"] ["pool"] (defScope s__law_works) := ⟨rfl, rfl, rfl, by decide +kernel, rfl, by decide +kernel, by decide +kernel⟩
theorem ok__law_works {f : Addr} {fd : FuncData} (F : Fun K "_law_works" "_law_works" s__law_works f fd) (T : Txt K mg) {f__law_draw : Addr} {fd__law_draw : FuncData} (C__law_draw : Cal P w K mg base "_law_draw" f__law_draw fd__law_draw ["pool", "many"] (sp__law_draw K) 2) : FnOk P w K mg base CX0 3 f fd ["pool"] (sp__law_works K) := by
  refine F.ok sc__law_works (fun vs H Q E h => ?_) (fun cdv A outer s H vs Q E hr h => ?_)
  · obtain ⟨p, l, rfl, hP, q⟩ := h
    rfl
  · obtain ⟨p, l, rfl, hP, q⟩ := h
    refine ⟨_, (pss_cons (ps_set (i := 1) sc__law_works.nd rfl (by first | exact Or.inl rfl | exact Or.inr rfl) (pe_ix (ixSeqK (K := K) rfl) (pe_tup (pa_cons pe_int (pa_cons pe_int (pa_cons pe_int pa_nil)))) (pe_call C__law_draw.G (hr.mono (by first | decide | omega)) (by rfl) C__law_draw.m C__law_draw.kp C__law_draw.b .nil pass0 (pa_cons (pv 0) (pa_cons pe_int pa_nil))) (fun _ _ => rfl)))
      (pss_one (ps_ret (pe_callTy (callTupOfK (K := K) rfl) (by rfl) T.z_tuple (by decide +kernel) (pa_cons (pe_lc (own := [("k", 2)]) (by rfl) sc__law_works.nd (pi_range1 (by rfl) T.z_range (pa_cons (pe_op (opAddK (K := K) rfl) pe_int (pe_call C__law_draw.G (hr.mono (by first | decide | omega)) (by rfl) C__law_draw.m C__law_draw.kp C__law_draw.b .nil pass0 (pa_cons (pv 0) (pa_cons (pe_ix (ixSeqK (K := K) rfl) (pe_tup (pa_cons pe_int (pa_cons pe_int pa_nil))) (pe_call C__law_draw.G (hr.mono (by first | decide | omega)) (by rfl) C__law_draw.m C__law_draw.kp C__law_draw.b .nil pass0 (pa_cons (pv 0) (pa_cons pe_int pa_nil))) (fun _ _ => rfl)) pa_nil)))) pa_nil)) (blkOk_by (own := [("k", 2)]) (N := ["pool", "top", "k"]) (sc := defScope s__law_works) (by decide +kernel)) (fun _ _ _ _ _ => (pg_name (i := 2) sc__law_works.nd rfl (by first | exact Or.inl rfl | exact Or.inr rfl))) (fun _ _ _ _ _ => pts_nil) (fun _ _ _ _ _ => (pe_call C__law_draw.G (hr.mono (by first | decide | omega)) (by rfl) C__law_draw.m C__law_draw.kp C__law_draw.b .nil pass0 (pa_cons (pv 0) (pa_cons (pv 1) pa_nil))))) pa_nil))))), ?_⟩
    walk_at "R"
    refine k_tup (by simp) (fun t1 H1 nt1 e1 ht1 => ?_)
    have hP1 := hP.same e1
    walk_at "R"
    refine ⟨_, l, _, rfl, by omega, by omega, hP1, fun d H2 d0 d1 e2 hP2 => ?_⟩
    have ht2 : SqT K H2 t1 _ := e2.seqT hP1 (SqT.of ht1)
    obtain ⟨top, ht3, ht4⟩ := at3 (x := 3) (y := 10) (z := 101) d0 d1
    walk_at "R"
    refine k_tup (by simp) (fun t3 H3 nt3 e3 ht3 => ?_)
    have hP3 := hP2.same e3
    walk_at "R"
    refine ⟨_, l, _, rfl, by omega, by omega, hP3, fun d2 H4 d20 d21 e4 hP4 => ?_⟩
    have ht5 : SqT K H4 t3 _ := e4.seqT hP3 (SqT.of ht3)
    obtain ⟨mv, hm1, hm2⟩ := at2 (x := .int 6) (y := .int 12) d20 d21
    obtain ⟨m, rfl, hm3⟩ : ∃ m : Int, mv = .int m ∧ 0 < m ∧ m ≤ 12 := by
      rcases hm2 with e | e
      · exact ⟨6, e, by omega⟩
      · exact ⟨12, e, by omega⟩
    walk_at "R"
    refine ⟨_, l, _, rfl, by omega, by omega, hP4, fun n H5 n0 n1 e5 hP5 => ?_⟩
    walk_at "R"
    have b05 : But p H H5 := ((((But.of e1).trans e2).trans (But.of e3)).trans e4).trans e5
    refine k_lcR1 (by omega) (fun dd hdd => ⟨fun i H' => ∃ cs : List Int, H' dd = some (.lst (cs.map V.int)) ∧ But p H H' ∧ PoolAt H' p l ∧ cs.length = i ∧ ∀ x ∈ cs, 0 ≤ x ∧ x ≤ 100, ?_, ?_, ?_⟩)
    · exact ⟨[], upd_same, But.mut b05 (b05.free hdd (hP5.np hdd)), hP5.upd (hP5.np hdd) (hP5.nl hdd), rfl, fun x hx => by cases hx⟩
    · rintro i H6 hi ⟨cs, h1, h2, hP6, h3, h4⟩
      have dp := hP5.np hdd
      walk_at "R"
      refine ⟨_, l, _, rfl, by omega, by omega, hP6, fun g H7 g0 g1 e7 hP7 => ?_⟩
      walk_at "R"
      refine k_elt (e7 _ _ dp h1) (by rw [List.length_map]; omega) ⟨cs ++ [g], by rw [upd_same, List.map_append]; rfl, But.mut (h2.trans e7) (b05.free hdd dp), hP7.upd dp (hP5.nl hdd), by rw [List.length_append, List.length_singleton, h3], fun x hx => ?_⟩
      rcases List.mem_append.mp hx with hx | hx
      · exact h4 x hx
      · rw [List.mem_singleton] at hx
        omega
    · rintro H6 ⟨cs, h1, h2, hP6, h3, h4⟩
      walk_at "R"
      refine o_tupL (SqL.of h1) (fun t H7 nt e7 ht => ?_)
      exact q t cs H7 (h2.trans (But.of e7)) (hP6.same e7) (SqT.of ht) (by omega) (by omega) h4

theorem sc__law_loads : FnScope ["works", "share", "bay", "k"] ["works", "share"] (defScope s__law_loads) := ⟨rfl, rfl, rfl, by decide +kernel, rfl, by decide +kernel, by decide +kernel⟩
theorem ok__law_loads {f : Addr} {fd : FuncData} (F : Fun K "_law_loads" "_law_loads" s__law_loads f fd) (T : Txt K mg) : FnOk P w K mg base CX0 1 f fd ["works", "share"] (sp__law_loads K) := by
  refine F.ok sc__law_loads (fun vs H Q E h => ?_) (fun cdv A outer s H vs Q E hr h => ?_)
  · obtain ⟨w, s, ws, sh, c, rfl, S, q⟩ := h
    rfl
  · obtain ⟨w, s, ws, sh, c, rfl, S, q⟩ := h
    refine ⟨_, (pss_one (ps_ret (pe_lc (own := [("k", 3)]) (by rfl) sc__law_loads.nd (pi_range1 (by rfl) T.z_range (pa_cons (pe_op op_sub (pe_callB (callLenK (K := K) rfl) (by rfl) T.z_len (by decide +kernel) (pa_cons (pv 1) pa_nil)) pe_int) pa_nil)) (blkOk_by (own := [("k", 3)]) (N := ["works", "share", "bay", "k"]) (sc := defScope s__law_loads) (by decide +kernel)) (fun _ _ _ _ _ => (pg_name (i := 3) sc__law_loads.nd rfl (by first | exact Or.inl rfl | exact Or.inr rfl))) (fun _ _ _ _ _ => pts_nil) (fun _ _ _ _ _ => (pe_callB (callSumG (K := K) rfl rfl) (by rfl) T.z_sum (by decide +kernel) (pa_cons (pe_lc (own := [("bay", 2)]) (by rfl) sc__law_loads.nd (pi_range2 (by rfl) T.z_range (pa_cons (pe_ix (ixSeqK (K := K) rfl) (pv 1) (pv 3) (fun _ _ => rfl)) (pa_cons (pe_ix (ixSeqK (K := K) rfl) (pv 1) (pe_op (opAddK (K := K) rfl) (pv 3) pe_int) (fun _ _ => rfl)) pa_nil))) (blkOk_by (own := [("bay", 2)]) (by rfl)) (fun _ _ _ _ _ => (pg_name (i := 2) sc__law_loads.nd rfl (by first | exact Or.inl rfl | exact Or.inr rfl))) (fun _ _ _ _ _ => pts_nil) (fun _ _ _ _ _ => (pe_ix (ixSeqK (K := K) rfl) (pv 0) (pv 2) (fun _ _ => rfl)))) pa_nil)))))), ?_⟩
    have lsh := S.ok.len
    have ts0 := S.ts
    have c6 := S.c6
    walk_at "R"
    rw [List.length_map, lsh]
    refine k_lcR1 (by omega) (fun dd hdd => ⟨fun i H' => Same H H' ∧ H' dd = some (.lst ((lensI ws sh i).map V.int)), ⟨same_new hdd, upd_same⟩, ?_, ?_⟩)
    · rintro i H1 hi ⟨e1, h1⟩
      have S1 := S.same e1
      have hic : i < c := by omega
      have x1 : atI (sh.map nV) (i : Int) = some (.int ((sh.getD i 0 : Nat) : Int)) := atI_nat (getD_atN (by omega))
      have x2 : atI (sh.map nV) ((i : Int) + 1) = some (.int ((sh.getD (i + 1) 0 : Nat) : Int)) := at_lit (i + 1) (by omega) (getD_atN (by omega))
      have ts1 := S1.ts
      have m1 := S.ok.mono i (i + 1) (by omega) (by omega)
      have m2 := S.ok.le (k := i + 1) (by omega)
      have l12 := S.l12
      walk_at "R"
      refine k_lcR2 (by omega) (fun d2 hd2 => ⟨fun j H' => Same H1 H' ∧ H' d2 = some (.lst (((ws.drop (sh.getD i 0)).take j).map V.int)), ⟨same_new hd2, upd_same⟩, ?_, ?_⟩)
      · rintro j H2 hj ⟨e2, h2⟩
        have hjl : sh.getD i 0 + j < ws.length := by omega
        have tw2 := Same.seqT e2 S1.tw
        have x3 : atI (ws.map V.int) (((sh.getD i 0 : Nat) : Int) + (j : Int)) = some (.int (ws.getD (sh.getD i 0 + j) 0)) := at_lit (sh.getD i 0 + j) (by omega) (getD_atI hjl)
        walk_at "R"
        refine k_elt h2 (by rw [List.length_map, List.length_take]; omega) ⟨Same.mut e2 hd2, ?_⟩
        have hg : (ws.drop (sh.getD i 0))[j]? = some (ws.getD (sh.getD i 0 + j) 0) := by
          rw [List.getElem?_drop]
          exact getD_some hjl
        rw [upd_same, take_snoc hg, List.map_append]
        rfl
      · rintro H2 ⟨e2, h2⟩
        rw [show (((sh.getD (i + 1) 0 : Nat) : Int) - ((sh.getD i 0 : Nat) : Int)).toNat = sh.getD (i + 1) 0 - sh.getD i 0 by omega] at h2
        walk_at "R"
        refine o_sumL (SqL.of h2) ?_
        refine k_elt (e2 _ _ h1) (by rw [List.length_map]; unfold lensI; rw [List.length_map, List.length_range]; omega) ⟨Same.mut (e1.trans e2) hdd, ?_⟩
        rw [upd_same, lens_at, List.map_append, S.rlen hic]
        rfl
    · rintro H1 ⟨e1, h1⟩
      rw [show (((c + 1 : Nat) : Int) - 1).toNat = c by omega] at h1
      exact q dd H1 e1 hdd h1

theorem sc__law_shares : FnScope ["many", "cranes", "rows", "k", "longer", "row", "cut"] ["many", "cranes"] (defScope s__law_shares) := ⟨rfl, rfl, rfl, by decide +kernel, rfl, by decide +kernel, by decide +kernel⟩
theorem ok__law_shares {f : Addr} {fd : FuncData} (F : Fun K "_law_shares" "_law_shares" s__law_shares f fd) (T : Txt K mg) : FnOk P w K mg base CX0 1 f fd ["many", "cranes"] (sp__law_shares K) := by
  refine F.ok sc__law_shares (fun vs H Q E h => ?_) (fun cdv A outer s H vs Q E hr h => ?_)
  · obtain ⟨N, c, rfl, hc1, hc3, hN, q⟩ := h
    rfl
  · obtain ⟨N, c, rfl, hc1, hc3, hN, q⟩ := h
    refine ⟨_, (pss_cons (ps_set (i := 2) sc__law_shares.nd rfl (by first | exact Or.inl rfl | exact Or.inr rfl) (pe_lst (pa_cons (pe_tup (pa_cons pe_int pa_nil)) pa_nil)))
      (pss_cons (ps_for PassesOwn.never rfl (pi_range1 (by rfl) T.z_range (pa_cons (pe_op op_sub (pv 1) pe_int) pa_nil)) (pg_name (i := 3) sc__law_shares.nd rfl (by first | exact Or.inl rfl | exact Or.inr rfl)) (pss_cons (ps_set (i := 4) sc__law_shares.nd rfl (by first | exact Or.inl rfl | exact Or.inr rfl) (pe_lst pa_nil))
      (pss_cons (ps_for PassesOwn.never rfl (piSeqK (K := K) rfl (pv 2)) (pg_name (i := 5) sc__law_shares.nd rfl (by first | exact Or.inl rfl | exact Or.inr rfl)) (pss_one (ps_set (i := 4) sc__law_shares.nd rfl (by first | exact Or.inl rfl | exact Or.inr rfl) (pe_op (opAddK (K := K) rfl) (pv 4) (pe_lc (own := [("cut", 6)]) (by rfl) sc__law_shares.nd (pi_range2 (by rfl) T.z_range (pa_cons (pe_ix (ixSeqK (K := K) rfl) (pv 5) (pe_un un_neg pe_int) (fun _ _ => rfl)) (pa_cons (pe_op (opAddK (K := K) rfl) (pv 0) pe_int) pa_nil))) (blkOk_by (own := [("cut", 6)]) (N := ["many", "cranes", "rows", "k", "longer", "row", "cut"]) (sc := defScope s__law_shares) (by decide +kernel)) (fun _ _ _ _ _ => (pg_name (i := 6) sc__law_shares.nd rfl (by first | exact Or.inl rfl | exact Or.inr rfl))) (fun _ _ _ _ _ => pts_nil) (fun _ _ _ _ _ => (pe_op (opAddK (K := K) rfl) (pv 5) (pe_tup (pa_cons (pv 6) pa_nil)))))))))
      (pss_one (ps_set (i := 2) sc__law_shares.nd rfl (by first | exact Or.inl rfl | exact Or.inr rfl) (pv 4))))))
      (pss_one (ps_ret (pe_lc (own := [("row", 5)]) (by rfl) sc__law_shares.nd (piSeqK (K := K) rfl (pv 2)) (blkOk_by (own := [("row", 5)]) (N := ["many", "cranes", "rows", "k", "longer", "row", "cut"]) (sc := defScope s__law_shares) (by decide +kernel)) (fun _ _ _ _ _ => (pg_name (i := 5) sc__law_shares.nd rfl (by first | exact Or.inl rfl | exact Or.inr rfl))) (fun _ _ _ _ _ => pts_nil) (fun _ _ _ _ _ => (pe_op (opAddK (K := K) rfl) (pv 5) (pe_tup (pa_cons (pv 0) pa_nil))))))))), ?_⟩
    walk_at "R"
    refine k_tup (by simp) (fun t1 H1 nt1 e1 ht1 => ?_)
    walk_at "R"
    refine k_lst (by simp) (fun t2 H2 nt2 e2 ht2 => ?_)
    walk_at "R"
    refine k_forR1 (fun k σ H' => ∃ (tr : Addr) (us : List V) (y3 y4 y5 y6 : Option V), σ = [some (.int (N : Nat)), some (.int (c : Nat)), some (.ref tr), y3, y4, y5, y6] ∧ Same H H' ∧ H' tr = some (.lst us) ∧ Paired (RowT K H') us (shsN N k)) (by omega) ⟨t2, [.ref t1], none, none, none, none, rfl, e1.trans e2, ht2, .cons ⟨t1, rfl, SqT.of (e2 _ _ ht1)⟩ .nil⟩ ?_ ?_
    · rintro k σ H3 hk ⟨tr, us, y3, y4, y5, y6, rfl, e3, ht3, hp3⟩
      have hlen := Nat.le_trans (shsN_len hN k) (pow_le (by omega))
      have lus := paired_len hp3
      walk_at "R"
      refine k_lst (by simp) (fun t4 H4 nt4 e4 ht4 => ?_)
      have ht34 := e4 _ _ ht3
      have hp4 : Paired (RowT K H4) us (shsN N k) := paired_map (fun _ _ => RowT.same e4) hp3
      walk_at "R"
      refine w_forL ?_
      walk_at "R"
      refine k_forL (fun i σ H' => ∃ (tl : Addr) (ls : List V) (y5 y6 : Option V), σ = [some (.int (N : Nat)), some (.int (c : Nat)), some (.ref tr), some (.int (k : Nat)), some (.ref tl), y5, y6] ∧ Same H4 H' ∧ H' tl = some (.lst ls) ∧ Paired (RowT K H') ls (((shsN N k).take i).flatMap (extN N k))) (SqL.of ht34) ⟨t4, [], _, _, rfl, Same.refl _, ht4, .nil⟩ ?_ ?_ ?_
      · rintro i σ H' _ ⟨_, _, _, _, rfl, e, _⟩
        exact e.seq (SqL.of ht34)
      · rintro i x σ H5 hx ⟨tl, ls, y5, y6, rfl, e5, hl5, hpl⟩
        obtain ⟨row, hrow, r, rfl, hr⟩ := paired_at hp4 hx
        have R := shsN_ok (List.mem_of_getElem? hrow)
        have hrl := R.len
        have htop := R.top
        have hr5 := Same.seqT e5 hr
        have x1 : atI (row.map nV) (-1) = some (.int ((row.getD k 0 : Nat) : Int)) := at_m1 (by
          rw [List.getLast?_eq_getElem?, List.length_map, hrl, Nat.add_sub_cancel]
          exact getD_atN (by omega))
        have hls : ls.length ≤ 13 * 2197 := by
          rw [paired_len hpl]
          refine Nat.le_trans (flat_le (b := 13) (fun r => by unfold extN; rw [List.length_map, List.length_range]; omega) _) (Nat.mul_le_mul_left 13 ?_)
          rw [List.length_take]
          omega
        have hflat : ((shsN N k).take (i + 1)).flatMap (extN N k) = ((shsN N k).take i).flatMap (extN N k) ++ extN N k row := by
          rw [take_snoc hrow, List.flatMap_append, List.flatMap_cons, List.flatMap_nil, List.append_nil]
        walk_at "R"
        refine k_lcR2 (by omega) (fun dd hdd => ⟨fun j H' => ∃ es, H' dd = some (.lst es) ∧ Same H5 H' ∧ Paired (RowT K H') es ((List.range j).map fun j => row ++ [row.getD k 0 + j]), ⟨[], upd_same, same_new hdd, .nil⟩, ?_, ?_⟩)
        · rintro j H6 hj ⟨es, h61, e6, h63⟩
          have hr6 := Same.seqT e6 hr5
          have les : es.length = j := by rw [paired_len h63, List.length_map, List.length_range]
          walk_at "R"
          refine k_tup (by simp) (fun t7 H7 nt7 e7 ht7 => ?_)
          refine o_addT (Same.seqT e7 hr6) (SqT.of ht7) (by rw [List.length_map]; simp only [List.length_cons, List.length_nil]; omega) (fun p8 H8 e8 hp8 => ?_)
          refine k_elt (e8 _ _ (e7 _ _ h61)) (by omega) ⟨_, upd_same, Same.mut (e6.trans (e7.trans e8)) hdd, ?_⟩
          rw [List.range_succ, List.map_append]
          refine paired_app ⟨p8, rfl, SqT.updL ?_ (e8 _ _ (e7 _ _ h61))⟩ (paired_map (fun _ _ h => RowT.updL (RowT.same (e7.trans e8) h) (e8 _ _ (e7 _ _ h61))) h63)
          have ec : (row ++ [row.getD k 0 + j]).map nV = row.map nV ++ [V.int (((row.getD k 0 : Nat) : Int) + (j : Int))] := by
            rw [List.map_append]
            show _ ++ [V.int _] = _
            rw [Int.natCast_add]
          rw [ec]
          exact hp8
        · rintro H6 ⟨es, h61, e6, h63⟩
          rw [show (((N : Nat) : Int) + 1 - ((row.getD k 0 : Nat) : Int)).toNat = N + 1 - row.getD k 0 by omega] at h63
          have les : es.length ≤ 13 := by
            rw [paired_len h63, List.length_map, List.length_range]
            omega
          walk_at "R"
          refine o_addL (e6 _ _ hl5) h61 (by omega) (fun t7 H7 nt7 e7 ht7 => ?_)
          walk_at "R"
          refine ⟨t7, _, _, _, rfl, e5.trans (e6.trans e7), ht7, ?_⟩
          rw [hflat]
          exact paired_cat (paired_map (fun _ _ => RowT.same (e6.trans e7)) hpl) (paired_map (fun _ _ => RowT.same e7) h63)
      · rintro σ H5 ⟨tl, ls, y5, y6, rfl, e5, hl5, hpl⟩
        rw [lus, List.take_length] at hpl
        walk_at "R"
        exact ⟨tl, ls, _, _, _, _, rfl, e3.trans (e4.trans e5), hl5, hpl⟩
    · rintro σ H3 ⟨tr, us, y3, y4, y5, y6, rfl, e3, ht3, hp3⟩
      rw [show (((c : Nat) : Int) - 1).toNat = c - 1 by omega] at hp3
      have hlen := Nat.le_trans (shsN_len hN (c - 1)) (pow_le (by omega))
      have lus := paired_len hp3
      walk_at "R"
      refine w_lcL ?_
      walk_at "R"
      refine k_lcL (SqL.of ht3) (fun dd hdd => ⟨fun i H' => ∃ es, H' dd = some (.lst es) ∧ Same H3 H' ∧ Paired (RowT K H') es (((shsN N (c - 1)).take i).map fun r => r ++ [N]), ⟨[], upd_same, same_new hdd, .nil⟩, fun i H' _ h => by
        obtain ⟨_, _, e, _⟩ := h
        exact e.seq (SqL.of ht3), ?_, ?_⟩)
      · rintro i x H4 hx ⟨es, h41, e4, h43⟩
        obtain ⟨row, hrow, r, rfl, hr⟩ := paired_at hp3 hx
        have R := shsN_ok (List.mem_of_getElem? hrow)
        have hrl := R.len
        have hr4 := Same.seqT e4 hr
        have les : es.length ≤ 2197 := by
          rw [paired_len h43, List.length_map, List.length_take]
          omega
        walk_at "R"
        refine k_tup (by simp) (fun t7 H7 nt7 e7 ht7 => ?_)
        refine o_addT (Same.seqT e7 hr4) (SqT.of ht7) (by rw [List.length_map]; simp only [List.length_cons, List.length_nil]; omega) (fun p8 H8 e8 hp8 => ?_)
        refine k_elt (e8 _ _ (e7 _ _ h41)) (by omega) ⟨_, upd_same, Same.mut (e4.trans (e7.trans e8)) hdd, ?_⟩
        rw [take_snoc hrow, List.map_append]
        refine paired_app ⟨p8, rfl, SqT.updL ?_ (e8 _ _ (e7 _ _ h41))⟩ (paired_map (fun _ _ h => RowT.updL (RowT.same (e7.trans e8) h) (e8 _ _ (e7 _ _ h41))) h43)
        rw [List.map_append]
        exact hp8
      · rintro H4 ⟨es, h41, e4, h43⟩
        rw [lus, List.take_length] at h43
        walk_at "R"
        exact q dd es H4 (e3.trans e4) h41 h43 (by rw [paired_len h43, List.length_map]; exact hlen)

theorem sc_law : FnScope ["script", "pool", "turn", "works", "cranes", "best", "share", "here"] ["script"] (defScope s_law) := ⟨rfl, rfl, rfl, by decide +kernel, rfl, by decide +kernel, by decide +kernel⟩
theorem ok_law {f : Addr} {fd : FuncData} (F : Fun K "law" "law" s_law f fd) (T : Txt K mg) {f__law_pool : Addr} {fd__law_pool : FuncData} (C__law_pool : Cal P w K mg base "_law_pool" f__law_pool fd__law_pool ["script"] (sp__law_pool K) 1) {f__law_works : Addr} {fd__law_works : FuncData} (C__law_works : Cal P w K mg base "_law_works" f__law_works fd__law_works ["pool"] (sp__law_works K) 3) {f__law_draw : Addr} {fd__law_draw : FuncData} (C__law_draw : Cal P w K mg base "_law_draw" f__law_draw fd__law_draw ["pool", "many"] (sp__law_draw K) 2) {f__law_shares : Addr} {fd__law_shares : FuncData} (C__law_shares : Cal P w K mg base "_law_shares" f__law_shares fd__law_shares ["many", "cranes"] (sp__law_shares K) 1) {f__law_loads : Addr} {fd__law_loads : FuncData} (C__law_loads : Cal P w K mg base "_law_loads" f__law_loads fd__law_loads ["works", "share"] (sp__law_loads K) 1) {f__law_same : Addr} {fd__law_same : FuncData} (C__law_same : Cal P w K mg base "_law_same" f__law_same fd__law_same ["actual", "due"] (sp__law_same_5 K) 6) {f_best_share : Addr} {fd_best_share : FuncData} (C_best_share : Cal P w K mg base "best_share" f_best_share fd_best_share ["works", "cranes"] (sp_best_share K) 3) : FnOk P w K mg base CX0 14 f fd ["script"] (sp_law K) := by
  refine F.ok sc_law (fun vs H Q E h => ?_) (fun cdv A outer s H vs Q E hr h => ?_)
  · obtain ⟨a, ns, rfl, hS, hn, q⟩ := h
    rfl
  · obtain ⟨a, ns, rfl, hS, hn, q⟩ := h
    refine ⟨_, (pss_cons (ps_set (i := 1) sc_law.nd rfl (by first | exact Or.inl rfl | exact Or.inr rfl) (pe_call C__law_pool.G (hr.mono (by first | decide | omega)) (by rfl) C__law_pool.m C__law_pool.kp C__law_pool.b .nil pass0 (pa_cons (pv 0) pa_nil)))
      (pss_cons (ps_for PassesOwn.never rfl (pi_range1 (by rfl) T.z_range (pa_cons pe_int pa_nil)) (pg_name (i := 2) sc_law.nd rfl (by first | exact Or.inl rfl | exact Or.inr rfl)) (pss_cons (ps_set (i := 3) sc_law.nd rfl (by first | exact Or.inl rfl | exact Or.inr rfl) (pe_call C__law_works.G (hr.mono (by first | decide | omega)) (by rfl) C__law_works.m C__law_works.kp C__law_works.b .nil pass0 (pa_cons (pv 1) pa_nil)))
      (pss_cons (ps_set (i := 4) sc_law.nd rfl (by first | exact Or.inl rfl | exact Or.inr rfl) (pe_op (opAddK (K := K) rfl) pe_int (pe_call C__law_draw.G (hr.mono (by first | decide | omega)) (by rfl) C__law_draw.m C__law_draw.kp C__law_draw.b .nil pass0 (pa_cons (pv 1) (pa_cons pe_int pa_nil)))))
      (pss_cons (ps_set (i := 5) sc_law.nd rfl (by first | exact Or.inl rfl | exact Or.inr rfl) pe_non)
      (pss_cons (ps_for PassesOwn.never rfl (piSeqK (K := K) rfl (pe_call C__law_shares.G (hr.mono (by first | decide | omega)) (by rfl) C__law_shares.m C__law_shares.kp C__law_shares.b .nil pass0 (pa_cons (pe_callB (callLenK (K := K) rfl) (by rfl) T.z_len (by decide +kernel) (pa_cons (pv 3) pa_nil)) (pa_cons (pv 4) pa_nil)))) (pg_name (i := 6) sc_law.nd rfl (by first | exact Or.inl rfl | exact Or.inr rfl)) (pss_cons (ps_set (i := 7) sc_law.nd rfl (by first | exact Or.inl rfl | exact Or.inr rfl) (pe_tup (pa_cons (pe_callB (callMaxG (K := K) rfl rfl) (by rfl) T.z_max (by decide +kernel) (pa_cons (pe_call C__law_loads.G (hr.mono (by first | decide | omega)) (by rfl) C__law_loads.m C__law_loads.kp C__law_loads.b .nil pass0 (pa_cons (pv 3) (pa_cons (pv 6) pa_nil))) pa_nil)) (pa_cons (pv 6) pa_nil))))
      (pss_one (ps_set (i := 5) sc_law.nd rfl (by first | exact Or.inl rfl | exact Or.inr rfl) (pe_ifExp ((pw_or (pt_cmp (pc_isN (pv 5))) (pw_or1 (pt_cmpR (opLtG (K := K) rfl hr.units) (pv 7) (pv 5) (nomark _))))).pt (pv 7) (pv 5))))))
      (pss_one (ps_if (pt_not (pt_val (pe_call C__law_same.G (hr.mono (by first | decide | omega)) (by rfl) C__law_same.m C__law_same.kp C__law_same.b .nil pass0 (pa_cons (pe_call C_best_share.G (hr.mono (by first | decide | omega)) (by rfl) C_best_share.m C_best_share.kp C_best_share.b .nil pass0 (pa_cons (pv 3) (pa_cons (pv 4) pa_nil))) (pa_cons (pe_ix (ixSeqK (K := K) rfl) (pv 5) pe_int (fun _ _ => rfl)) pa_nil))))) (pss_one (ps_ret pe_bl)) pss_nil)))))))
      (pss_one (ps_ret pe_bl)))), ?_⟩
    walk_at "R"
    refine ⟨_, ns, rfl, hS, hn, fun p l H1 e1 np nl hP1 => ?_⟩
    walk_at "R"
    refine k_forR1 (fun i σ H' => ∃ y2 y3 y4 y5 y6 y7, σ = [some (.ref a), some (.ref p), y2, y3, y4, y5, y6, y7] ∧ PoolAt H' p l) (by omega) ⟨_, _, _, _, _, _, rfl, hP1⟩ ?_ ?_
    · rintro i0 σ HA hi ⟨y2, y3, y4, y5, y6, y7, rfl, hPA⟩
      walk_at "R"
      refine ⟨p, l, rfl, hPA, fun w ws H2 e2 hP2 tw l1 l12 hws => ?_⟩
      walk_at "R"
      refine ⟨p, l, 4, rfl, by omega, by omega, hP2, fun cz H3 c0 c1 e3 hP3 => ?_⟩
      obtain ⟨cn, rfl⟩ : ∃ n : Nat, cz = n := ⟨cz.toNat, by omega⟩
      have tw3 := e3.seqT hP2 tw
      have W3 : WsT K H3 w ws := ⟨tw3, l1, l12, hws⟩
      have hnn : ∀ x ∈ ws, 0 ≤ x := fun x hx => (hws x hx).1
      walk_at "R"
      refine w_forL ?_
      walk_at "R"
      rw [List.length_map]
      refine ⟨ws.length, cn + 1, by simp only [Int.natCast_add, Int.natCast_one]; rw [Int.add_comm], by omega, by omega, l12, fun t us H4 e4 ht4 hp4 hl4 => ?_⟩
      have W4 := W3.same e4
      walk_at "R"
      refine k_forL (fun i σ H' => ∃ bv y6 y7, σ = [some (.ref a), some (.ref p), some (.int (i0 : Nat)), some (.ref w), some (.int (1 + (cn : Int))), some bv, y6, y7] ∧ Same H4 H' ∧ ((i = 0 ∧ bv = .non) ∨ ∃ b r m row, bv = .ref b ∧ SqT K H' b [.int m, .ref r] ∧ SqT K H' r (row.map nV) ∧ BestTo ws (cn + 1) (sharesN ws.length (cn + 1)) i m row)) (SqL.of ht4) ⟨_, _, _, rfl, Same.refl _, .inl ⟨rfl, rfl⟩⟩ ?_ ?_ ?_
      · rintro j σ HB _ ⟨bv, y6, y7, rfl, eB, _⟩
        exact eB.seq (SqL.of ht4)
      · rintro j x σ HB hx ⟨bv, y6, y7, rfl, eB, hb⟩
        obtain ⟨row, hrow, r, rfl, hr⟩ := paired_at hp4 hx
        have R := sharesN_ok (by omega) (List.mem_of_getElem? hrow)
        have hrB := Same.seqT eB hr
        have SI : ShIn K HB w r ws row (cn + 1) := ⟨(W4.same eB).t, hrB, R, hws, by omega, by omega, by omega⟩
        walk_at "R"
        refine ⟨w, r, ws, row, cn + 1, rfl, SI, fun t5 H5 e5 nt5 ht5 => ?_⟩
        walk_at "R"
        refine o_maxL (SqL.of ht5) (by unfold lensI; rw [List.length_map, List.length_range]; omega) (fun m hm1 hm2 => ?_)
        have hr5 := Same.seqT e5 hrB
        walk_at "R"
        refine k_tup (by simp) (fun hd H6 nd e6 hhd => ?_)
        have hr6 := Same.seqT e6 hr5
        have e56 := e5.trans e6
        walk_at "R"
        rcases hb with ⟨rfl, rfl⟩ | ⟨b, rb, mb, rowb, rfl, hbt, hrb, BT⟩
        · walk_at "R"
          exact ⟨_, _, _, rfl, eB.trans e56, .inr ⟨hd, r, m, row, rfl, SqT.of hhd, hr6, ⟨List.mem_of_getElem? hrow, ⟨hm1, hm2⟩, fun j hj r' hr' z hz1 hz2 => by
            obtain rfl : j = 0 := by omega
            rw [hrow] at hr'
            obtain rfl := Option.some.inj hr'
            obtain rfl : z = m := Int.le_antisymm (hm2 _ hz1) (hz2 _ hm1)
            cases hh : HT.lexLt (z :: natI row) (z :: natI row) with
            | false => rfl
            | true => rw [lexI_asym' _ _ hh] at hh; cases hh⟩⟩⟩
        · have hb6 := Same.seqT e56 hbt
          have hrb6 := Same.seqT e56 hrb
          have hr6' : SqT K H6 r ((natI row).map V.int) := by rw [mapnV] at hr6; exact hr6
          have hrb6' : SqT K H6 rb ((natI rowb).map V.int) := by rw [mapnV] at hrb6; exact hrb6
          have Rb := sharesN_ok (by omega) BT.mem
          have lr := R.len
          have lrb := Rb.len
          walk_at "R"
          refine o_ltP (SqT.of hhd) hb6 hr6' hrb6' (by unfold natI; rw [List.length_map]; omega) (by unfold natI; rw [List.length_map]; omega) ?_
          walk_at "R"
          refine k_if (fun z => ?_) (fun z => ?_)
          · walk_at "R"
            refine ⟨_, _, _, rfl, eB.trans e56, .inr ⟨hd, r, m, row, rfl, SqT.of hhd, hr6, ⟨List.mem_of_getElem? hrow, ⟨hm1, hm2⟩, fun k hk r' hr' zz hz1 hz2 => ?_⟩⟩⟩
            by_cases c : k = j
            · subst c
              rw [hrow] at hr'
              obtain rfl := Option.some.inj hr'
              obtain rfl : zz = m := Int.le_antisymm (hm2 _ hz1) (hz2 _ hm1)
              cases hh : HT.lexLt (zz :: natI row) (zz :: natI row) with
              | false => rfl
              | true => rw [lexI_asym' _ _ hh] at hh; cases hh
            · exact lexI_tr' _ _ _ (lexI_asym' _ _ z) (BT.least k (by omega) r' hr' zz hz1 hz2)
          · walk_at "R"
            refine ⟨_, _, _, rfl, eB.trans e56, .inr ⟨b, rb, mb, rowb, rfl, hb6, hrb6, ⟨BT.mem, BT.max, fun k hk r' hr' zz hz1 hz2 => ?_⟩⟩⟩
            by_cases c : k = j
            · subst c
              rw [hrow] at hr'
              obtain rfl := Option.some.inj hr'
              obtain rfl : zz = m := Int.le_antisymm (hm2 _ hz1) (hz2 _ hm1)
              exact z
            · exact BT.least k (by omega) r' hr' zz hz1 hz2
      · rintro σ HB ⟨bv, y6, y7, rfl, eB, hb⟩
        have hus : us.length = (sharesN ws.length (cn + 1)).length := paired_len hp4
        have WB := W4.same eB
        dsimp only
        refine w_ifS ?_
        walk_at "R"
        refine ⟨w, ws, cn + 1, by simp only [Int.natCast_add, Int.natCast_one]; rw [Int.add_comm], WB, by omega, by omega, fun M ts sh H5 e5 hts B S L => ?_⟩
        have hSall := sharesN_all (N := ws.length) (c := cn + 1) (by omega) S.ok
        obtain ⟨j0, hj0⟩ := List.getElem?_of_mem hSall
        have hj0l := (List.getElem?_eq_some_iff.mp hj0).1
        rcases hb with ⟨h0, rfl⟩ | ⟨b, rb, mb, rowb, rfl, hbt, hrb, BT⟩
        · rw [hus] at h0
          omega
        · have W5 := WB.same e5
          have hne := W5.ne
          have R := sharesN_ok (N := ws.length) (c := cn + 1) (by omega) BT.mem
          have SI : ShIn K H5 w ts ws sh (cn + 1) := ShIn.of W5 (SqT.of hts) S (by omega) (by omega)
          have hlen : ∀ i, i < cn + 1 → ((rw_ ws rowb i).length : Int) = seg ws (rowb.getD i 0) (rowb.getD (i + 1) 0) := fun i hi => (⟨W5.t, Same.seqT e5 hrb, R, hws, by omega, by omega, by omega⟩ : ShIn K H5 w rb ws rowb (cn + 1)).rlen hi
          have hseg : ∀ i, i < cn + 1 → seg ws (rowb.getD i 0) (rowb.getD (i + 1) 0) ≤ mb := fun i hi => by
            rw [← hlen i hi]
            exact BT.max.2 _ (List.mem_map.mpr ⟨i, List.mem_range.mpr hi, rfl⟩)
          have hMm : M ≤ mb := B.le hnn hne (split_share (f := fun i => rowb.getD i 0) R.zero R.last (fun i hi => R.mono i (i + 1) (by omega) (by omega)) hseg)
          have hex : ∃ z, z ∈ lensI ws sh (cn + 1) ∧ ∀ x ∈ lensI ws sh (cn + 1), x ≤ z := by
            have hl : lensI ws sh (cn + 1) ≠ [] := by unfold lensI; rw [List.range_succ, List.map_append]; simp
            exact max_ex hl
          obtain ⟨z, hz1, hz2⟩ := hex
          obtain rfl := lens_max SI W5 B S hz1 hz2
          have hlt := BT.least j0 (by omega) sh hj0 z hz1 hz2
          rw [HT.lexLt_cons] at hlt
          have hzm : z = mb := by
            by_cases c : z = mb
            · exact c
            · rw [if_neg c] at hlt
              have := of_decide_eq_false hlt
              omega
          rw [if_pos hzm] at hlt
          have hlt2 := least_first hnn S L R (fun i hi => by rw [hzm]; exact hseg i hi)
          have hrow : natI rowb = natI sh := lexI_eq' hlt2 hlt
          have hrb5 := Same.seqT e5 hrb
          have hb5 := Same.seqT e5 hbt
          have hrbI : SqT K H5 rb ((natI sh).map V.int) := by rw [← hrow]; rw [mapnV] at hrb5; exact hrb5
          have htsI : SqT K H5 ts ((natI sh).map V.int) := by
            have := SqT.of (K := K) hts
            rw [mapnV] at this
            exact this
          have hls := S.len
          walk_at "R"
          refine ⟨_, _, _, _, rfl, .tup htsI (dp_ints' _), .tup hrbI (dp_ints' _), ⟨by unfold natI; rw [List.length_map, List.length_map]; omega, fun d hd => by obtain ⟨_, _, rfl⟩ := List.mem_map.mp hd; trivial⟩, fun bb H6 e6 hb => ?_⟩
          have hb1 : bb = true := hb.mpr rfl
          subst hb1
          walk_at "R"
          exact ⟨_, _, _, _, _, _, rfl, hP3.same (((e4.trans eB).trans e5).trans e6)⟩
    · rintro σ HA ⟨y2, y3, y4, y5, y6, y7, rfl, hPA⟩
      walk_at "R"
      exact q _

end
theorem all_mk {l : PySem.W.OpenLaw} {w : World} {K : PySem.W.Frag} {h : Heap} {mg : Str → Option Value} {fa : Addr} (X : K.In h) (G : h.Ns mainGlobals mg) (hfa : mg "law" = some (.ref fa))
    {od__law_same an__law_same : Option Addr} {sl__law_same : Array (Option Value)} {oc__law_same kV__law_same dc__law_same pm__law_same cd__law_same ct__law_same : Value} {f__law_same : Addr}
    {od__law_pool an__law_pool : Option Addr} {sl__law_pool : Array (Option Value)} {oc__law_pool kV__law_pool dc__law_pool pm__law_pool cd__law_pool ct__law_pool : Value} {f__law_pool : Addr}
    {od__law_spread an__law_spread : Option Addr} {sl__law_spread : Array (Option Value)} {oc__law_spread kV__law_spread dc__law_spread pm__law_spread cd__law_spread ct__law_spread : Value} {f__law_spread : Addr}
    {od__law_draw an__law_draw : Option Addr} {sl__law_draw : Array (Option Value)} {oc__law_draw kV__law_draw dc__law_draw pm__law_draw cd__law_draw ct__law_draw : Value} {f__law_draw : Addr}
    {od_cranes_needed an_cranes_needed : Option Addr} {sl_cranes_needed : Array (Option Value)} {oc_cranes_needed kV_cranes_needed dc_cranes_needed pm_cranes_needed cd_cranes_needed ct_cranes_needed : Value} {f_cranes_needed : Addr}
    {od_least_load an_least_load : Option Addr} {sl_least_load : Array (Option Value)} {oc_least_load kV_least_load dc_least_load pm_least_load cd_least_load ct_least_load : Value} {f_least_load : Addr}
    {od_best_share an_best_share : Option Addr} {sl_best_share : Array (Option Value)} {oc_best_share kV_best_share dc_best_share pm_best_share cd_best_share ct_best_share : Value} {f_best_share : Addr}
    {od__law_works an__law_works : Option Addr} {sl__law_works : Array (Option Value)} {oc__law_works kV__law_works dc__law_works pm__law_works cd__law_works ct__law_works : Value} {f__law_works : Addr}
    {od__law_loads an__law_loads : Option Addr} {sl__law_loads : Array (Option Value)} {oc__law_loads kV__law_loads dc__law_loads pm__law_loads cd__law_loads ct__law_loads : Value} {f__law_loads : Addr}
    {od__law_shares an__law_shares : Option Addr} {sl__law_shares : Array (Option Value)} {oc__law_shares kV__law_shares dc__law_shares pm__law_shares cd__law_shares ct__law_shares : Value} {f__law_shares : Addr}
    {od_law an_law : Option Addr} {sl_law : Array (Option Value)} {oc_law kV_law dc_law pm_law cd_law ct_law : Value} {f_law : Addr}
    (a__law_same : PySem.W.nsIn K mainGlobals "_law_same" = some (some (.ref f__law_same)))
    (l__law_same : K.lookup f__law_same = some ⟨oc__law_same, od__law_same, .func (PySem.W.fnOf "_law_same" "_law_same" (defArgs s__law_same) (defBody s__law_same) (defScope s__law_same) .none kV__law_same dc__law_same pm__law_same an__law_same cd__law_same ct__law_same), sl__law_same⟩)
    (c__law_same : PySem.W.codeIn K cd__law_same "_law_same" = true)
    (k__law_same : PySem.W.keepIn K (.ref f__law_same) = true)
    (a__law_pool : PySem.W.nsIn K mainGlobals "_law_pool" = some (some (.ref f__law_pool)))
    (l__law_pool : K.lookup f__law_pool = some ⟨oc__law_pool, od__law_pool, .func (PySem.W.fnOf "_law_pool" "_law_pool" (defArgs s__law_pool) (defBody s__law_pool) (defScope s__law_pool) .none kV__law_pool dc__law_pool pm__law_pool an__law_pool cd__law_pool ct__law_pool), sl__law_pool⟩)
    (c__law_pool : PySem.W.codeIn K cd__law_pool "_law_pool" = true)
    (k__law_pool : PySem.W.keepIn K (.ref f__law_pool) = true)
    (a__law_spread : PySem.W.nsIn K mainGlobals "_law_spread" = some (some (.ref f__law_spread)))
    (l__law_spread : K.lookup f__law_spread = some ⟨oc__law_spread, od__law_spread, .func (PySem.W.fnOf "_law_spread" "_law_spread" (defArgs s__law_spread) (defBody s__law_spread) (defScope s__law_spread) .none kV__law_spread dc__law_spread pm__law_spread an__law_spread cd__law_spread ct__law_spread), sl__law_spread⟩)
    (c__law_spread : PySem.W.codeIn K cd__law_spread "_law_spread" = true)
    (k__law_spread : PySem.W.keepIn K (.ref f__law_spread) = true)
    (a__law_draw : PySem.W.nsIn K mainGlobals "_law_draw" = some (some (.ref f__law_draw)))
    (l__law_draw : K.lookup f__law_draw = some ⟨oc__law_draw, od__law_draw, .func (PySem.W.fnOf "_law_draw" "_law_draw" (defArgs s__law_draw) (defBody s__law_draw) (defScope s__law_draw) .none kV__law_draw dc__law_draw pm__law_draw an__law_draw cd__law_draw ct__law_draw), sl__law_draw⟩)
    (c__law_draw : PySem.W.codeIn K cd__law_draw "_law_draw" = true)
    (k__law_draw : PySem.W.keepIn K (.ref f__law_draw) = true)
    (a_cranes_needed : PySem.W.nsIn K mainGlobals "cranes_needed" = some (some (.ref f_cranes_needed)))
    (l_cranes_needed : K.lookup f_cranes_needed = some ⟨oc_cranes_needed, od_cranes_needed, .func (PySem.W.fnOf "cranes_needed" "cranes_needed" (defArgs s_cranes_needed) (defBody s_cranes_needed) (defScope s_cranes_needed) .none kV_cranes_needed dc_cranes_needed pm_cranes_needed an_cranes_needed cd_cranes_needed ct_cranes_needed), sl_cranes_needed⟩)
    (c_cranes_needed : PySem.W.codeIn K cd_cranes_needed "cranes_needed" = true)
    (k_cranes_needed : PySem.W.keepIn K (.ref f_cranes_needed) = true)
    (a_least_load : PySem.W.nsIn K mainGlobals "least_load" = some (some (.ref f_least_load)))
    (l_least_load : K.lookup f_least_load = some ⟨oc_least_load, od_least_load, .func (PySem.W.fnOf "least_load" "least_load" (defArgs s_least_load) (defBody s_least_load) (defScope s_least_load) .none kV_least_load dc_least_load pm_least_load an_least_load cd_least_load ct_least_load), sl_least_load⟩)
    (c_least_load : PySem.W.codeIn K cd_least_load "least_load" = true)
    (k_least_load : PySem.W.keepIn K (.ref f_least_load) = true)
    (a_best_share : PySem.W.nsIn K mainGlobals "best_share" = some (some (.ref f_best_share)))
    (l_best_share : K.lookup f_best_share = some ⟨oc_best_share, od_best_share, .func (PySem.W.fnOf "best_share" "best_share" (defArgs s_best_share) (defBody s_best_share) (defScope s_best_share) .none kV_best_share dc_best_share pm_best_share an_best_share cd_best_share ct_best_share), sl_best_share⟩)
    (c_best_share : PySem.W.codeIn K cd_best_share "best_share" = true)
    (k_best_share : PySem.W.keepIn K (.ref f_best_share) = true)
    (a__law_works : PySem.W.nsIn K mainGlobals "_law_works" = some (some (.ref f__law_works)))
    (l__law_works : K.lookup f__law_works = some ⟨oc__law_works, od__law_works, .func (PySem.W.fnOf "_law_works" "_law_works" (defArgs s__law_works) (defBody s__law_works) (defScope s__law_works) .none kV__law_works dc__law_works pm__law_works an__law_works cd__law_works ct__law_works), sl__law_works⟩)
    (c__law_works : PySem.W.codeIn K cd__law_works "_law_works" = true)
    (k__law_works : PySem.W.keepIn K (.ref f__law_works) = true)
    (a__law_loads : PySem.W.nsIn K mainGlobals "_law_loads" = some (some (.ref f__law_loads)))
    (l__law_loads : K.lookup f__law_loads = some ⟨oc__law_loads, od__law_loads, .func (PySem.W.fnOf "_law_loads" "_law_loads" (defArgs s__law_loads) (defBody s__law_loads) (defScope s__law_loads) .none kV__law_loads dc__law_loads pm__law_loads an__law_loads cd__law_loads ct__law_loads), sl__law_loads⟩)
    (c__law_loads : PySem.W.codeIn K cd__law_loads "_law_loads" = true)
    (k__law_loads : PySem.W.keepIn K (.ref f__law_loads) = true)
    (a__law_shares : PySem.W.nsIn K mainGlobals "_law_shares" = some (some (.ref f__law_shares)))
    (l__law_shares : K.lookup f__law_shares = some ⟨oc__law_shares, od__law_shares, .func (PySem.W.fnOf "_law_shares" "_law_shares" (defArgs s__law_shares) (defBody s__law_shares) (defScope s__law_shares) .none kV__law_shares dc__law_shares pm__law_shares an__law_shares cd__law_shares ct__law_shares), sl__law_shares⟩)
    (c__law_shares : PySem.W.codeIn K cd__law_shares "_law_shares" = true)
    (k__law_shares : PySem.W.keepIn K (.ref f__law_shares) = true)
    (a_law : PySem.W.nsIn K mainGlobals "law" = some (some (.ref f_law)))
    (l_law : K.lookup f_law = some ⟨oc_law, od_law, .func (PySem.W.fnOf "law" "law" (defArgs s_law) (defBody s_law) (defScope s_law) .none kV_law dc_law pm_law an_law cd_law ct_law), sl_law⟩)
    (c_law : PySem.W.codeIn K cd_law "law" = true)
    (k_law : PySem.W.keepIn K (.ref f_law) = true)
    (z_len : PySem.W.nsIn K mainGlobals "len" = some none)
    (z_isinstance : PySem.W.nsIn K mainGlobals "isinstance" = some none)
    (z_list : PySem.W.nsIn K mainGlobals "list" = some none)
    (z_tuple : PySem.W.nsIn K mainGlobals "tuple" = some none)
    (z_range : PySem.W.nsIn K mainGlobals "range" = some none)
    (z_bool : PySem.W.nsIn K mainGlobals "bool" = some none)
    (z_int : PySem.W.nsIn K mainGlobals "int" = some none)
    (z_str : PySem.W.nsIn K mainGlobals "str" = some none)
    (z_sum : PySem.W.nsIn K mainGlobals "sum" = some none)
    (z_max : PySem.W.nsIn K mainGlobals "max" = some none)
    (z_min : PySem.W.nsIn K mainGlobals "min" = some none)
    (z_reversed : PySem.W.nsIn K mainGlobals "reversed" = some none)
    : ∃ fd : FuncData, (∀ (s : Shared) (v : Value), BindsTo s fd ⟨[v], []⟩ [("script", v)]) ∧ ∀ base : Heap, K.In base → base.Ns mainGlobals mg → FnOk l.prog w K mg base CX0 14 fa fd ["script"] (sp_law K) := by
  have e := hfa.symm.trans (PySem.W.mg_of X G a_law)
  cases e
  have T : Txt K mg := ⟨PySem.W.mg_none_of X G z_len, PySem.W.mg_none_of X G z_isinstance, PySem.W.mg_none_of X G z_list, PySem.W.mg_none_of X G z_tuple, PySem.W.mg_none_of X G z_range, PySem.W.mg_none_of X G z_bool, PySem.W.mg_none_of X G z_int, PySem.W.mg_none_of X G z_str, PySem.W.mg_none_of X G z_sum, PySem.W.mg_none_of X G z_max, PySem.W.mg_none_of X G z_min, PySem.W.mg_none_of X G z_reversed⟩
  have F__law_same := fun_mk (st := s__law_same) l__law_same c__law_same k__law_same
  have b__law_same := F__law_same.binds (ps := ["actual", "due"]) fun _ _ _ _ _ _ us hl => match us, hl with | [_, _], _ => rfl
  have F__law_pool := fun_mk (st := s__law_pool) l__law_pool c__law_pool k__law_pool
  have b__law_pool := F__law_pool.binds (ps := ["script"]) fun _ _ _ _ _ _ us hl => match us, hl with | [_], _ => rfl
  have F__law_spread := fun_mk (st := s__law_spread) l__law_spread c__law_spread k__law_spread
  have b__law_spread := F__law_spread.binds (ps := ["cell"]) fun _ _ _ _ _ _ us hl => match us, hl with | [_], _ => rfl
  have F__law_draw := fun_mk (st := s__law_draw) l__law_draw c__law_draw k__law_draw
  have b__law_draw := F__law_draw.binds (ps := ["pool", "many"]) fun _ _ _ _ _ _ us hl => match us, hl with | [_, _], _ => rfl
  have F_cranes_needed := fun_mk (st := s_cranes_needed) l_cranes_needed c_cranes_needed k_cranes_needed
  have b_cranes_needed := F_cranes_needed.binds (ps := ["works", "most"]) fun _ _ _ _ _ _ us hl => match us, hl with | [_, _], _ => rfl
  have F_least_load := fun_mk (st := s_least_load) l_least_load c_least_load k_least_load
  have b_least_load := F_least_load.binds (ps := ["works", "cranes"]) fun _ _ _ _ _ _ us hl => match us, hl with | [_, _], _ => rfl
  have F_best_share := fun_mk (st := s_best_share) l_best_share c_best_share k_best_share
  have b_best_share := F_best_share.binds (ps := ["works", "cranes"]) fun _ _ _ _ _ _ us hl => match us, hl with | [_, _], _ => rfl
  have F__law_works := fun_mk (st := s__law_works) l__law_works c__law_works k__law_works
  have b__law_works := F__law_works.binds (ps := ["pool"]) fun _ _ _ _ _ _ us hl => match us, hl with | [_], _ => rfl
  have F__law_loads := fun_mk (st := s__law_loads) l__law_loads c__law_loads k__law_loads
  have b__law_loads := F__law_loads.binds (ps := ["works", "share"]) fun _ _ _ _ _ _ us hl => match us, hl with | [_, _], _ => rfl
  have F__law_shares := fun_mk (st := s__law_shares) l__law_shares c__law_shares k__law_shares
  have b__law_shares := F__law_shares.binds (ps := ["many", "cranes"]) fun _ _ _ _ _ _ us hl => match us, hl with | [_, _], _ => rfl
  have F_law := fun_mk (st := s_law) l_law c_law k_law
  have b_law := F_law.binds (ps := ["script"]) fun _ _ _ _ _ _ us hl => match us, hl with | [_], _ => rfl
  refine ⟨PySem.W.fnOf "law" "law" (defArgs s_law) (defBody s_law) (defScope s_law) .none kV_law dc_law pm_law an_law cd_law ct_law, fun s v => .of_eq rfl, fun base _ _ => ?_⟩
  have C__law_same : Cal l.prog w K mg base "_law_same" f__law_same _ ["actual", "due"] (sp__law_same_5 K) 6 := ⟨ok__law_same_all F__law_same T (PySem.W.mg_of X G a__law_same) b__law_same 5, PySem.W.mg_of X G a__law_same, F__law_same.kp, b__law_same⟩
  have C__law_pool : Cal l.prog w K mg base "_law_pool" f__law_pool _ ["script"] (sp__law_pool K) 1 := ⟨ok__law_pool F__law_pool T, PySem.W.mg_of X G a__law_pool, F__law_pool.kp, b__law_pool⟩
  have C__law_spread : Cal l.prog w K mg base "_law_spread" f__law_spread _ ["cell"] (sp__law_spread K) 1 := ⟨ok__law_spread F__law_spread T, PySem.W.mg_of X G a__law_spread, F__law_spread.kp, b__law_spread⟩
  have C__law_draw : Cal l.prog w K mg base "_law_draw" f__law_draw _ ["pool", "many"] (sp__law_draw K) 2 := ⟨ok__law_draw F__law_draw T C__law_spread, PySem.W.mg_of X G a__law_draw, F__law_draw.kp, b__law_draw⟩
  have C_cranes_needed : Cal l.prog w K mg base "cranes_needed" f_cranes_needed _ ["works", "most"] (sp_cranes_needed K) 1 := ⟨ok_cranes_needed F_cranes_needed T, PySem.W.mg_of X G a_cranes_needed, F_cranes_needed.kp, b_cranes_needed⟩
  have C_least_load : Cal l.prog w K mg base "least_load" f_least_load _ ["works", "cranes"] (sp_least_load K) 2 := ⟨ok_least_load F_least_load T C_cranes_needed, PySem.W.mg_of X G a_least_load, F_least_load.kp, b_least_load⟩
  have C_best_share : Cal l.prog w K mg base "best_share" f_best_share _ ["works", "cranes"] (sp_best_share K) 3 := ⟨ok_best_share F_best_share T C_least_load C_cranes_needed, PySem.W.mg_of X G a_best_share, F_best_share.kp, b_best_share⟩
  have C__law_works : Cal l.prog w K mg base "_law_works" f__law_works _ ["pool"] (sp__law_works K) 3 := ⟨ok__law_works F__law_works T C__law_draw, PySem.W.mg_of X G a__law_works, F__law_works.kp, b__law_works⟩
  have C__law_loads : Cal l.prog w K mg base "_law_loads" f__law_loads _ ["works", "share"] (sp__law_loads K) 1 := ⟨ok__law_loads F__law_loads T, PySem.W.mg_of X G a__law_loads, F__law_loads.kp, b__law_loads⟩
  have C__law_shares : Cal l.prog w K mg base "_law_shares" f__law_shares _ ["many", "cranes"] (sp__law_shares K) 1 := ⟨ok__law_shares F__law_shares T, PySem.W.mg_of X G a__law_shares, F__law_shares.kp, b__law_shares⟩
  exact ok_law F_law T C__law_pool C__law_works C__law_draw C__law_shares C__law_loads C__law_same C_best_share
end Tw
open PySem PySem.W PyProof.Rows
set_option maxRecDepth 100000 in
set_option maxHeartbeats 0 in
theorem PySem.Challenge.cw_tidewarden_k17_whole_best_shares_holds : PySem.Challenge.rw_tidewarden_k17_whole_best_shares.Holds := by
  w_on; o_law; k_head; (case hw => w_witness2)
  k_fill
  refine L2.walk_of (l := PySem.Challenge.rw_tidewarden_k17_whole_best_shares) (n := 63) (k := 14) (x := "script") (CX := fun _ => L2.CX0) (sp := fun w => Tw.sp_law _) rfl (by decide) rfl ⟨rfl, by decide, by decide⟩ (fun w h Y => PySem.W.kIn_of Y) ?F (fun _ _ a ns hl _ hS => ⟨a, ns, rfl, hS, hl, fun _ => rfl⟩) (fun _ _ _ _ _ h => h)
  case F =>
    intro w mg fa h KX G hmg
    refine' Tw.all_mk KX G hmg ?a__law_same ?l__law_same ?c__law_same ?k__law_same ?a__law_pool ?l__law_pool ?c__law_pool ?k__law_pool ?a__law_spread ?l__law_spread ?c__law_spread ?k__law_spread ?a__law_draw ?l__law_draw ?c__law_draw ?k__law_draw ?a_cranes_needed ?l_cranes_needed ?c_cranes_needed ?k_cranes_needed ?a_least_load ?l_least_load ?c_least_load ?k_least_load ?a_best_share ?l_best_share ?c_best_share ?k_best_share ?a__law_works ?l__law_works ?c__law_works ?k__law_works ?a__law_loads ?l__law_loads ?c__law_loads ?k__law_loads ?a__law_shares ?l__law_shares ?c__law_shares ?k__law_shares ?a_law ?l_law ?c_law ?k_law ?z_len ?z_isinstance ?z_list ?z_tuple ?z_range ?z_bool ?z_int ?z_str ?z_sum ?z_max ?z_min ?z_reversed
    (case a__law_same => k_is)
    (case l__law_same => k_is)
    (case c__law_same => k_is)
    (case k__law_same => k_is)
    (case a__law_pool => k_is)
    (case l__law_pool => k_is)
    (case c__law_pool => k_is)
    (case k__law_pool => k_is)
    (case a__law_spread => k_is)
    (case l__law_spread => k_is)
    (case c__law_spread => k_is)
    (case k__law_spread => k_is)
    (case a__law_draw => k_is)
    (case l__law_draw => k_is)
    (case c__law_draw => k_is)
    (case k__law_draw => k_is)
    (case a_cranes_needed => k_is)
    (case l_cranes_needed => k_is)
    (case c_cranes_needed => k_is)
    (case k_cranes_needed => k_is)
    (case a_least_load => k_is)
    (case l_least_load => k_is)
    (case c_least_load => k_is)
    (case k_least_load => k_is)
    (case a_best_share => k_is)
    (case l_best_share => k_is)
    (case c_best_share => k_is)
    (case k_best_share => k_is)
    (case a__law_works => k_is)
    (case l__law_works => k_is)
    (case c__law_works => k_is)
    (case k__law_works => k_is)
    (case a__law_loads => k_is)
    (case l__law_loads => k_is)
    (case c__law_loads => k_is)
    (case k__law_loads => k_is)
    (case a__law_shares => k_is)
    (case l__law_shares => k_is)
    (case c__law_shares => k_is)
    (case k__law_shares => k_is)
    (case a_law => k_is)
    (case l_law => k_is)
    (case c_law => k_is)
    (case k_law => k_is)
    (case z_len => k_is)
    (case z_isinstance => k_is)
    (case z_list => k_is)
    (case z_tuple => k_is)
    (case z_range => k_is)
    (case z_bool => k_is)
    (case z_int => k_is)
    (case z_str => k_is)
    (case z_sum => k_is)
    (case z_max => k_is)
    (case z_min => k_is)
    (case z_reversed => k_is)
#print axioms PySem.Challenge.cw_tidewarden_k17_whole_best_shares_holds