import PyProof.Rows.All
import Wide.All
import OpenK.AllK
import Wide.FinOn
import HandS.ForMost
import HandS.IsInst
import HandS.Defaults
import HandS.MakeKwOnly
import HandS.Conv
import HandS.Wide
import HandS.TupAny
import HandS.SortInts
import HandS.Evl
import PyProof.TupleIter
import PyProof.WalksMore
import PySem.Challenge.RW_tidewarden_k11_next_passages
set_option Elab.async false
set_option linter.all false
set_option maxRecDepth 100000
set_option maxHeartbeats 4000000
namespace Tw
open PySem PySem.Spec PyProof.Rows L2
/-! ### callees as they stand -/
structure Cal (P : Program) (w : World) (K : PySem.W.Frag) (mg : Str → Option Value) (base : Heap) (x : Str) (f : Addr) (fd : FuncData) (ps : List Str) (sp : Sp) (k : Nat) : Prop where
  G : FnOk P w K mg base CX0 k f fd ps sp
  m : mg x = some (.ref f)
  kp : PySem.W.keepIn K (.ref f) = true
  b : Binds K fd ps []
structure CalD (P : Program) (w : World) (K : PySem.W.Frag) (mg : Str → Option Value) (base : Heap) (x : Str) (f : Addr) (fd : FuncData) (ps : List Str) (sp : Sp) (k : Nat) : Prop where
  G : FnOk P w K mg base CX0 k f fd ps sp
  m : mg x = some (.ref f)
  kp : PySem.W.keepIn K (.ref f) = true
/-! ### operators by more than one kind -/
def orR (r1 r2 : R2) : R2 := fun x y H Q => r1 x y H Q ∨ r2 x y H Q
section
variable {X : Cx}
theorem or2 {f : Value → Value → Sem Value} {r1 r2 : R2} (h1 : OpR X f r1) (h2 : OpR X f r2) : OpR X f (orR r1 r2) :=
  fun pins s σ H x y v u Q I rx ry h => h.elim (h1 pins s σ H x y v u Q I rx ry) (h2 pins s σ H x y v u Q I rx ry)
def rAddS : R2 := fun x y H Q => ∃ i j, x = .str i ∧ y = .str j ∧ i.length + j.length ≤ sizeLine ∧ Q (.str (i ++ j)) H
def rAdd (K : PySem.W.Frag) : R2 := orR (rI0 fun i j => .int (i + j)) (orR (rCatA K) (orR rCat rAddS))
theorem opAdd : OpR X (binaryOp .Add) (rAdd X.K) := or2 op_add (or2 op_catA (or2 op_cat op_add_str))
def rMul : R2 := orR (rI CMul fun i j => .int (i * j)) (rI CMulW fun i j => .int (i * j))
theorem opMul : OpR X (binaryOp .Mult) rMul := or2 op_mul op_mulW
def rEqG (K : PySem.W.Frag) : R2 := orR rEq (rEqD K)
def rNeG (K : PySem.W.Frag) : R2 := orR rNe (rNeD K)
theorem opEq (hu : X.A.units + 64 < cLine) : OpR X (compareOp .Eq) (rEqG X.K) := or2 op_eq (op_eqD hu)
theorem opNe (hu : X.A.units + 64 < cLine) : OpR X (compareOp .NotEq) (rNeG X.K) := or2 op_ne (op_neD hu)
theorem opIn : OpR X (compareOp .In) (rIn X.K false) := op_in_seq
theorem opNotIn : OpR X (compareOp .NotIn) (rIn X.K true) := op_notIn_seq
def rLt : R2 := rI0 fun i j => .bl (decide (i < j))
theorem opLt : OpR X (compareOp .Lt) rLt := op_lt
def rSl (K : PySem.W.Frag) : V → Option Int → Option Int → Hp → VK → Prop := fun x lo hi H Q => rSlL K x lo hi H Q ∨ rSlA K x lo hi H Q
theorem slAny : SlR X (rSl X.K) := sl_list.or sl_tupA
def rLenG (K : PySem.W.Frag) : List V → Hp → VK → Prop := fun xs H Q => ∃ x n, xs = [x] ∧ LenV K x H n ∧ Q (V.int (n : Nat)) H
theorem callLen : CallR X (.builtin "len") (rLenG X.K) := call_len
def rInt1 : List V → Hp → VK → Prop := fun xs H Q => (∃ i, xs = [.int i] ∧ Q (.int i) H) ∨ ∃ k, xs = [.bl k] ∧ Q (.int (if k then 1 else 0)) H
theorem callInt1 : CallR X (.type "int") rInt1 := call_int1
def rListOf (K : PySem.W.Frag) : List V → Hp → VK → Prop := fun xs H Q => ∃ p ys, xs = [.ref p] ∧ (SqL K H p ys ∨ SqT K H p ys) ∧ ∀ l, H l = none → Q (.ref l) (upd H l (.lst ys))
theorem callListOf : CallR X (.type "list") (rListOf X.K) := call_list_of
def rTupOf (K : PySem.W.Frag) : List V → Hp → VK → Prop := fun xs H Q => ∃ p ys, xs = [.ref p] ∧ ((SqL K H p ys ∧ ∀ l, H l = none → Q (.ref l) (upd H l (.tup ys))) ∨ (SqT K H p ys ∧ Q (.ref p) H))
theorem callTupOf : CallR X (.type "tuple") (rTupOf X.K) := call_tuple_of
def rMx2 : List V → Hp → VK → Prop := fun xs H Q => ∃ i j, xs = [.int i, .int j] ∧ Q (.int (if j > i then j else i)) H
theorem callMax2 (hc : X.calm = true) : CallR X (.builtin "max") rMx2 := call_max2 hc
def rMn2 : List V → Hp → VK → Prop := fun xs H Q => ∃ i j, xs = [.int i, .int j] ∧ Q (.int (if j < i then j else i)) H
theorem callMin2 (hc : X.calm = true) : CallR X (.builtin "min") rMn2 := call_min2 hc
def iSeq (K : PySem.W.Frag) (tl : TE) : TI := fun σ H R => iList K tl σ H R ∨ iTup K tl σ H R
theorem piSeq {tg l : Expr} {tl : TE} (hl : PE X l tl) : PI X tg l (iSeq X.K tl) :=
  ⟨fun pins s σ H R I h => h.elim ((pi_list hl).run pins s σ H R I) ((pi_tup hl).run pins s σ H R I)⟩
end
section
variable {X : Cx} {K : PySem.W.Frag}
theorem opAddK (e : X.K = K) : OpR X (binaryOp .Add) (rAdd K) := e ▸ opAdd
theorem opEqK (e : X.K = K) (hu : X.A.units + 64 < cLine) : OpR X (compareOp .Eq) (rEqG K) := e ▸ opEq hu
theorem opNeK (e : X.K = K) (hu : X.A.units + 64 < cLine) : OpR X (compareOp .NotEq) (rNeG K) := e ▸ opNe hu
theorem opInK (e : X.K = K) : OpR X (compareOp .In) (rIn K false) := e ▸ opIn
theorem opNotInK (e : X.K = K) : OpR X (compareOp .NotIn) (rIn K true) := e ▸ opNotIn
theorem slAnyK (e : X.K = K) : SlR X (rSl K) := e ▸ slAny
theorem ixSeqK (e : X.K = K) : IxR X (rIx K) := e ▸ ix_seq
theorem piSeqK {tg l : Expr} {tl : TE} (e : X.K = K) (hl : PE X l tl) : PI X tg l (iSeq K tl) := e ▸ piSeq hl
theorem pgTupK {es : List Expr} {k n : Nat} {t : TGs} {pos : Pos} (e : X.K = K) (hc : X.calm = true) (h : PGs X es t)
    (hn : (assignEach es X.env).length = n := by rfl) (hst : (assignEach es X.env).findIdx? (·.1) = none := by rfl) : PG X (.Tuple es k pos) (gTup K n t) := by
  subst e
  exact pg_tup hc h hn hst
theorem callLenK (e : X.K = K) : CallR X (.builtin "len") (rLenG K) := e ▸ callLen
theorem callListOfK (e : X.K = K) : CallR X (.type "list") (rListOf K) := e ▸ callListOf
theorem callTupOfK (e : X.K = K) : CallR X (.type "tuple") (rTupOf K) := e ▸ callTupOf
theorem callIsiK (e : X.K = K) : CallR X (.builtin "isinstance") (rIsi K) := e ▸ call_isi
theorem callSumK (e : X.K = K) (hc : X.calm = true) : CallR X (.builtin "sum") (rSum K) := e ▸ cr_sum hc
theorem callMaxK (e : X.K = K) (hc : X.calm = true) : CallR X (.builtin "max") (rMax K) := e ▸ cr_max hc
theorem callMinK (e : X.K = K) (hc : X.calm = true) : CallR X (.builtin "min") (rMin K) := e ▸ cr_min hc
theorem callAnyK (e : X.K = K) (hc : X.calm = true) : CallR X (.builtin "any") (rAny K) := e ▸ cr_any hc
theorem callAllK (e : X.K = K) (hc : X.calm = true) : CallR X (.builtin "all") (rAll K) := e ▸ cr_all hc
theorem callSortedK (e : X.K = K) : CallR X (.builtin "sorted") (rSortedI K) := e ▸ cr_sortedI
end
theorem peGlobE {X : Cx} {x : Str} {v : V} {pos : Pos} (hg : Gl X x) (h : ∃ u, X.mg x = some u ∧ RelV v u) (hd : (x == ("__debug__" : Str)) = false := by decide) : PE X (.Name x pos) (tC v) := by
  obtain ⟨u, h1, h2⟩ := h
  exact pe_glob hg h1 h2 hd
def rAbs1 : List V → Hp → VK → Prop := fun xs H Q => ∃ i, xs = [.int i] ∧ Q (.int (if i < 0 then -i else i)) H
theorem callAbs {X : Cx} : CallR X (.builtin "abs") rAbs1 := call_abs
theorem o_abs {H : Hp} {Q : VK} {a : Int} (h : Q (.int (if a < 0 then -a else a)) H) : rAbs1 [.int a] H Q := ⟨a, rfl, h⟩
/-- a def with keyword-only parameters, out of which nothing is raised -/
theorem FunD.okN {P : Program} {w : World} {K : PySem.W.Frag} {mg : Str → Option Value} {base : Heap} {x qual : Str} {params : Arguments} {body : List Stmt} {scope : Scope} {dvs : List V} {kws : List (Str × V)} {f : Addr} {fd : FuncData} {N ps : List Str} {k : Nat} {sp : Sp} (F : FunD K x qual params body scope dvs kws f fd) (S : FnScope N ps scope) (len : ∀ vs H Q E, sp vs H Q E → vs.length = ps.length)
    (hbody : ∀ (cdv : Value) (A : Around) (outer : List Env) (s : Shared) (H : Hp) (vs : List V) (Q : VK) (E : XK), Room k (A.deeper (envOfC qual scope s.heap.objs.size f cdv)) → sp vs H Q E →
      ∃ t, PSs (cxOf CX0 P w K mg base N qual scope f cdv A outer s H E).nox body t ∧ t { nx := fun _ H' => Q .non H', rt := Q } (start N vs) H) : FnOk P w K mg base CX0 (k + 1) f fd ps sp :=
  F.ok S len fun cdv A outer s H vs Q E hr hsp => by
    obtain ⟨t, h, q⟩ := hbody cdv A outer s H vs Q E hr hsp
    exact ⟨t, h.nox, q⟩
/-! ### heaps -/
theorem same_new {H : Hp} {p : Addr} {o : HO} (h : H p = none) : Same H (upd H p o) := fun b x e => by
  rw [upd_ne (ne_of_none e h)]
  exact e
theorem same_rd {H H' : Hp} {a : Addr} {u : HO} (e : Same H H') (h : Rd H a u) : Rd H' a u := by
  rcases h with h | ⟨o, h⟩
  · exact Or.inl (e a _ h)
  · exact Or.inr ⟨o, e a _ h⟩
theorem Same.seqT {K : PySem.W.Frag} {H H' : Hp} {a : Addr} {xs : List V} (e : Same H H') (h : SqT K H a xs) : SqT K H' a xs := by
  rcases h with h | h
  · exact Or.inl (same_rd e h)
  · exact Or.inr h
/-- what is at p alone may have changed -/
def But (p : Addr) (H H' : Hp) : Prop := ∀ a o, a ≠ p → H a = some o → H' a = some o
theorem But.refl (p : Addr) (H : Hp) : But p H H := fun _ _ _ h => h
theorem But.trans {p : Addr} {H H1 H2 : Hp} (a : But p H H1) (b : But p H1 H2) : But p H H2 := fun c o n h => b c o n (a c o n h)
theorem But.of {p : Addr} {H H' : Hp} (e : Same H H') : But p H H' := fun a o _ h => e a o h
theorem But.upd {p : Addr} {H : Hp} {o : HO} : But p H (upd H p o) := fun a u n h => by
  rw [upd_ne n]
  exact h
/-! ### new objects, by any name and heap -/
def Fresh (H : Hp) (o : HO) (Q : VK) : Prop := ∀ p H', H p = none → Same H H' → H' p = some o → Q (.ref p) H'
theorem fresh_of {H : Hp} {Q : VK} {o : HO} (h : Fresh H o Q) : ∀ p, H p = none → Q (.ref p) (upd H p o) := fun p np => h p _ np (same_new np) upd_same
/-! ### what follows, by name -/
def kOp1 (r : R2) (tb : TE) (σ : L2.St) (Q : VK) : VK := fun x H1 => tb σ H1 fun y H2 => r x y H2 Q
def kOp2 (r : R2) (x : V) (Q : VK) : VK := fun y H2 => r x y H2 Q
def kUn (r : V → Hp → VK → Prop) (Q : VK) : VK := fun x H1 => r x H1 Q
def kCB (r : List V → Hp → VK → Prop) (Q : VK) : List V → Hp → Prop := fun vs H1 => r vs H1 Q
def kCons1 (tr : TA) (σ : L2.St) (QA : List V → Hp → Prop) : VK := fun x H1 => tr σ H1 fun xs H2 => QA (x :: xs) H2
def kCons2 (x : V) (QA : List V → Hp → Prop) : List V → Hp → Prop := fun xs H2 => QA (x :: xs) H2
def kTup (Q : VK) : List V → Hp → Prop := fun xs H1 => xs.length ≤ sizeLine ∧ ∀ p, H1 p = none → Q (.ref p) (upd H1 p (.tup xs))
def kLst (Q : VK) : List V → Hp → Prop := fun xs H1 => xs.length ≤ sizeLine ∧ ∀ p, H1 p = none → Q (.ref p) (upd H1 p (.lst xs))
def kCall (sp : Sp) (dvs : List V) (E : XK) (Q : VK) : List V → Hp → Prop := fun vs H1 => sp (vs ++ dvs) H1 Q E
def kCallN1 (n m : Nat) (sp : Sp) (gV : List V → List V → List V) (E : XK) (tk : TA) (σ : L2.St) (Q : VK) : List V → Hp → Prop := fun vs H1 => tk σ H1 fun zs H2 => vs.length = n ∧ zs.length = m ∧ sp (gV vs zs) H2 Q E
def kCallN2 (n m : Nat) (sp : Sp) (gV : List V → List V → List V) (E : XK) (vs : List V) (Q : VK) : List V → Hp → Prop := fun zs H2 => vs.length = n ∧ zs.length = m ∧ sp (gV vs zs) H2 Q E
def kIf (ta tb : TE) (σ : L2.St) (Q : VK) : Bool → Hp → Prop := fun c H1 => if c = true then ta σ H1 Q else tb σ H1 Q
def kAndV (tb : TE) (σ : L2.St) (Q : VK) : VK := fun x H1 => ∃ c, x = .bl c ∧ if c = true then tb σ H1 Q else Q (.bl false) H1
def kOrV (tb : TE) (σ : L2.St) (Q : VK) : VK := fun x H1 => ∃ c, x = .bl c ∧ if c = true then Q (.bl true) H1 else tb σ H1 Q
def kNotV (Q : VK) : VK := fun x H1 => ∃ c, x = .bl c ∧ Q (.bl (!c)) H1
def kIsN (Q : VK) : VK := fun x H1 => Q (.bl (decide (x = .non))) H1
def kNotN (Q : VK) : VK := fun x H1 => Q (.bl (!decide (x = .non))) H1
def kSl1 (r : V → Option Int → Option Int → Hp → VK → Prop) (tl th : TO) (σ : L2.St) (Q : VK) : VK := fun x H1 => tl σ H1 fun l H2 => th σ H2 fun u H3 => r x l u H3 Q
def kSl2 (r : V → Option Int → Option Int → Hp → VK → Prop) (th : TO) (x : V) (σ : L2.St) (Q : VK) : Option Int → Hp → Prop := fun l H2 => th σ H2 fun u H3 => r x l u H3 Q
def kSl3 (r : V → Option Int → Option Int → Hp → VK → Prop) (x : V) (l : Option Int) (Q : VK) : Option Int → Hp → Prop := fun u H3 => r x l u H3 Q
def kPart (QO : Option Int → Hp → Prop) : VK := fun x H1 => ∃ i, x = .int i ∧ QO (some i) H1
def kBM1 (K : PySem.W.Frag) (T : String) (r : V → List V → Hp → VK → Prop) (ts : TA) (σ : L2.St) (Q : VK) : VK := fun x H1 => tyV K T x H1 ∧ ts σ H1 fun xs H2 => r x xs H2 Q
def kBM2 (r : V → List V → Hp → VK → Prop) (x : V) (Q : VK) : List V → Hp → Prop := fun xs H2 => r x xs H2 Q
def kTest (QB : Bool → Hp → Prop) : VK := fun x H1 => ∃ k, x = .bl k ∧ QB k H1
def kAnd (u : TT) (σ : L2.St) (QB : Bool → Hp → Prop) : Bool → Hp → Prop := fun c H1 => if c = true then u σ H1 QB else QB false H1
def kOr (u : TT) (σ : L2.St) (QB : Bool → Hp → Prop) : Bool → Hp → Prop := fun c H1 => if c = true then QB true H1 else u σ H1 QB
def kNot (QB : Bool → Hp → Prop) : Bool → Hp → Prop := fun c H1 => QB (!c) H1
def kAsg (g : TG) (D : Ends) (σ : L2.St) : VK := fun x H1 => g x σ H1 D.nx
def kDrop (D : Ends) (σ : L2.St) : VK := fun _ H1 => D.nx σ H1
def kIfS (t u : TS) (D : Ends) (σ : L2.St) : Bool → Hp → Prop := fun b H1 => if b = true then t D σ H1 else u D σ H1
def kGs (u : TGs) (r : List V) (QS : L2.St → Hp → Prop) : L2.St → Hp → Prop := fun σ' H' => u r σ' H' QS
def kSub1 (ti : TE) (ts : TSet) (v : V) (σ : L2.St) (QS : L2.St → Hp → Prop) : VK := fun o H1 => ti σ H1 fun i H2 => ts o i v H2 fun H3 => QS σ H3
def kSub2 (ts : TSet) (o v : V) (σ : L2.St) (QS : L2.St → Hp → Prop) : VK := fun i H2 => ts o i v H2 fun H3 => QS σ H3
def kAug (ti : TIp) (i : Nat) (x : V) (D : Ends) (σ : L2.St) : VK := fun y H1 => ti x y H1 fun z H2 => D.nx (σ.set i (some z)) H2
/-- the word of a for loop over the iterator J -/
def LoopW (J : It) (g : TG) (tb : TS) (D : Ends) (σ : L2.St) (H1 : Hp) : Prop := ∃ W : Nat → Nat → L2.St → Hp → Prop, (∃ m, W 0 m σ H1) ∧ ∀ i m σ H, W i m σ H →
  (J.stop i H ∧ D.nx σ H) ∨ (J.go i H ∧ ∃ N : L2.St → Hp → Prop, (∀ σ' H', N σ' H' → ∃ m', m' < m ∧ W (i + 1) m' σ' H') ∧ ∀ x H', J.yld i H x H' → g x σ H' fun σ2 H2 => tb { D with nx := N, ct := N, bk := D.nx } σ2 H2)
def kForL (K : PySem.W.Frag) (g : TG) (tb : TS) (D : Ends) (σ : L2.St) : VK := fun x H1 => ∃ a, x = .ref a ∧ (∃ xs, SqL K H1 a xs) ∧ LoopW (Itl K a) g tb D σ H1
def kForT (K : PySem.W.Frag) (g : TG) (tb : TS) (D : Ends) (σ : L2.St) : VK := fun x H1 => ∃ a, x = .ref a ∧ (∃ xs, SqT K H1 a xs) ∧ LoopW (Itt K a) g tb D σ H1
def kForR1 (g : TG) (tb : TS) (D : Ends) (σ : L2.St) : List V → Hp → Prop := fun vs H1 => ∃ j : Int, vs = [.int j] ∧ -(2 ^ 62) ≤ j ∧ j < 2 ^ 62 ∧ LoopW (Itr 0 j.toNat) g tb D σ H1
def kForR2 (g : TG) (tb : TS) (D : Ends) (σ : L2.St) : List V → Hp → Prop := fun vs H1 => ∃ i j : Int, vs = [.int i, .int j] ∧ (-(2 ^ 62) ≤ i ∧ i < 2 ^ 62 ∧ -(2 ^ 62) ≤ j ∧ j < 2 ^ 62) ∧ LoopW (Itr i (j - i).toNat) g tb D σ H1
/-- the word of a comprehension over the iterator J -/
def CompW (J : It) (g : TG) (tt : TT) (te : TE) (vs : List Nat) (σ : L2.St) (Q : VK) (H1 : Hp) : Prop := ∀ D, H1 D = none → ∃ W : Nat → Nat → Hp → Prop, (∃ m, W 0 m (upd H1 D (.lst []))) ∧ ∀ i m H, W i m H →
  (J.stop i H ∧ Q (.ref D) H) ∨ (J.go i H ∧ ∃ Nx : Hp → Prop, (∀ H', Nx H' → ∃ m', m' < m ∧ W (i + 1) m' H') ∧ ∀ x H', J.yld i H x H' → g x (wipe σ vs) H' fun σ2 H2 => wipe σ2 vs = wipe σ vs ∧ tt σ2 H2 fun b H3 =>
    if b = true then te σ2 H3 fun y H4 => ∃ acc, H4 D = some (.lst acc) ∧ acc.length < sizeLine ∧ Nx (upd H4 D (.lst (acc ++ [y]))) else Nx H3)
def kLcL (K : PySem.W.Frag) (g : TG) (tt : TT) (te : TE) (vs : List Nat) (σ : L2.St) (Q : VK) : VK := fun x H1 => ∃ a, x = .ref a ∧ (∃ xs, SqL K H1 a xs) ∧ CompW (Itl K a) g tt te vs σ Q H1
def kLcT (K : PySem.W.Frag) (g : TG) (tt : TT) (te : TE) (vs : List Nat) (σ : L2.St) (Q : VK) : VK := fun x H1 => ∃ a, x = .ref a ∧ (∃ xs, SqT K H1 a xs) ∧ CompW (Itt K a) g tt te vs σ Q H1
def kLcR1 (g : TG) (tt : TT) (te : TE) (vs : List Nat) (σ : L2.St) (Q : VK) : List V → Hp → Prop := fun ws H1 => ∃ j : Int, ws = [.int j] ∧ -(2 ^ 62) ≤ j ∧ j < 2 ^ 62 ∧ CompW (Itr 0 j.toNat) g tt te vs σ Q H1
def kLcR2 (g : TG) (tt : TT) (te : TE) (vs : List Nat) (σ : L2.St) (Q : VK) : List V → Hp → Prop := fun ws H1 => ∃ i j : Int, ws = [.int i, .int j] ∧ (-(2 ^ 62) ≤ i ∧ i < 2 ^ 62 ∧ -(2 ^ 62) ≤ j ∧ j < 2 ^ 62) ∧ CompW (Itr i (j - i).toNat) g tt te vs σ Q H1
def kTst (te : TE) (D : Addr) (σ2 : L2.St) (Nx : Hp → Prop) : Bool → Hp → Prop := fun b H3 => if b = true then te σ2 H3 fun y H4 => ∃ acc, H4 D = some (.lst acc) ∧ acc.length < sizeLine ∧ Nx (upd H4 D (.lst (acc ++ [y]))) else Nx H3
def kElt (D : Addr) (Nx : Hp → Prop) : VK := fun y H4 => ∃ acc, H4 D = some (.lst acc) ∧ acc.length < sizeLine ∧ Nx (upd H4 D (.lst (acc ++ [y])))
def kChain1 (r r' : R2) (tb tc : TE) (σ : L2.St) (Q : VK) : VK := fun x H1 => tb σ H1 fun y H2 => r x y H2 fun z H3 => ∃ k, z = .bl k ∧ (if k = true then tc σ H3 fun w' H4 => r' y w' H4 Q else Q (.bl false) H3)
def kChain2 (r r' : R2) (tc : TE) (x : V) (σ : L2.St) (Q : VK) : VK := fun y H2 => r x y H2 fun z H3 => ∃ k, z = .bl k ∧ (if k = true then tc σ H3 fun w' H4 => r' y w' H4 Q else Q (.bl false) H3)
def kChain3 (r' : R2) (tc : TE) (y : V) (σ : L2.St) (Q : VK) : VK := fun z H3 => ∃ k, z = .bl k ∧ (if k = true then tc σ H3 fun w' H4 => r' y w' H4 Q else Q (.bl false) H3)
def kRg1 (QR : Int → Int → Hp → Prop) : VK := fun x H1 => ∃ n, x = .int n ∧ QR 0 n H1
def kRg2 (tb : TE) (σ : L2.St) (QR : Int → Int → Hp → Prop) : VK := fun x H1 => tb σ H1 fun y H2 => ∃ i j, x = .int i ∧ y = .int j ∧ QR i j H2
def kRg3 (x : V) (QR : Int → Int → Hp → Prop) : VK := fun y H2 => ∃ i j, x = .int i ∧ y = .int j ∧ QR i j H2
def kLstRg (Q : VK) : Int → Int → Hp → Prop := fun a b H1 => RgOk a b ∧ ∀ q, H1 q = none → Q (.ref q) (upd H1 q (.lst (rgV a b)))
/-! ### readings, step by step -/
section
variable {K : PySem.W.Frag} {σ : L2.St} {H : Hp} {Q : VK} {QB : Bool → Hp → Prop} {QA : List V → Hp → Prop} {QO : Option Int → Hp → Prop} {QS : L2.St → Hp → Prop} {QR : Int → Int → Hp → Prop} {ta tb tc te : TE} {t u : TT} {ts tr tk : TA} {tl th : TO} {v x y : V} {i n m : Nat} {r r' : R2} {D : Ends} {s1 s2 : TS} {g : TG} {gs : TGs} {xs vs : List V}
theorem w_var (h : σ[i]? = some (some v)) (q : Q v H) : tVar i σ H Q := ⟨v, h, q⟩
theorem w_c (q : Q v H) : tC v σ H Q := q
theorem w_op (h : ta σ H (kOp1 r tb σ Q)) : tOp r ta tb σ H Q := h
theorem w_op1 (h : tb σ H (kOp2 r x Q)) : kOp1 r tb σ Q x H := h
theorem w_op2 (h : r x y H Q) : kOp2 r x Q y H := h
theorem w_un {r : V → Hp → VK → Prop} (h : ta σ H (kUn r Q)) : tUn r ta σ H Q := h
theorem w_un1 {r : V → Hp → VK → Prop} (h : r x H Q) : kUn r Q x H := h
theorem w_cb {r : List V → Hp → VK → Prop} (h : ts σ H (kCB r Q)) : tCB r ts σ H Q := h
theorem w_cb1 {r : List V → Hp → VK → Prop} (h : r xs H Q) : kCB r Q xs H := h
theorem w_nil (q : QA [] H) : tNil σ H QA := q
theorem w_cons (h : ta σ H (kCons1 tr σ QA)) : tCons ta tr σ H QA := h
theorem w_cons1 (h : tr σ H (kCons2 x QA)) : kCons1 tr σ QA x H := h
theorem w_cons2 (h : QA (x :: xs) H) : kCons2 x QA xs H := h
theorem w_tup (h : ts σ H (kTup Q)) : tTup ts σ H Q := h
theorem w_lst (h : ts σ H (kLst Q)) : tLst ts σ H Q := h
theorem k_tup (hl : xs.length ≤ 1000) (h : Fresh H (.tup xs) Q) : kTup Q xs H := ⟨Nat.le_trans hl (by decide), fresh_of h⟩
theorem k_lst (hl : xs.length ≤ 1000) (h : Fresh H (.lst xs) Q) : kLst Q xs H := ⟨Nat.le_trans hl (by decide), fresh_of h⟩
theorem w_call {sp : Sp} {dvs : List V} {E : XK} (h : ts σ H (kCall sp dvs E Q)) : tCall sp dvs E ts σ H Q := h
theorem k_call {sp : Sp} {E : XK} (h : sp vs H Q E) : kCall sp [] E Q vs H := by
  show sp (vs ++ []) H Q E
  rw [List.append_nil]
  exact h
theorem k_callD {sp : Sp} {dvs : List V} {E : XK} (h : sp (vs ++ dvs) H Q E) : kCall sp dvs E Q vs H := h
theorem w_callN {sp : Sp} {gV : List V → List V → List V} {E : XK} (h : ts σ H (kCallN1 n m sp gV E tk σ Q)) : tCallN n m sp gV E ts tk σ H Q := h
theorem w_callN1 {sp : Sp} {gV : List V → List V → List V} {E : XK} (h : tk σ H (kCallN2 n m sp gV E vs Q)) : kCallN1 n m sp gV E tk σ Q vs H := h
theorem k_callN {sp : Sp} {gV : List V → List V → List V} {E : XK} (h1 : vs.length = n) (h2 : xs.length = m) (h : sp (gV vs xs) H Q E) : kCallN2 n m sp gV E vs Q xs H := ⟨h1, h2, h⟩
theorem w_if (h : t σ H (kIf ta tb σ Q)) : tIf t ta tb σ H Q := h
theorem k_if {b : Bool} (h1 : b = true → ta σ H Q) (h2 : b = false → tb σ H Q) : kIf ta tb σ Q b H := by
  cases b with
  | true => exact h1 rfl
  | false => exact h2 rfl
theorem w_andV (h : ta σ H (kAndV tb σ Q)) : tAndV ta tb σ H Q := h
theorem k_andV {b : Bool} (h1 : b = true → tb σ H Q) (h2 : b = false → Q (.bl false) H) : kAndV tb σ Q (.bl b) H := ⟨b, rfl, by
  cases b with
  | true => exact h1 rfl
  | false => exact h2 rfl⟩
theorem w_orV (h : ta σ H (kOrV tb σ Q)) : tOrV ta tb σ H Q := h
theorem k_orV {b : Bool} (h1 : b = true → Q (.bl true) H) (h2 : b = false → tb σ H Q) : kOrV tb σ Q (.bl b) H := ⟨b, rfl, by
  cases b with
  | true => exact h1 rfl
  | false => exact h2 rfl⟩
theorem w_notV (h : ta σ H (kNotV Q)) : tNotV ta σ H Q := h
theorem k_notV {b : Bool} (h : Q (.bl (!b)) H) : kNotV Q (.bl b) H := ⟨b, rfl, h⟩
theorem w_isN (h : ta σ H (kIsN Q)) : tIsN ta σ H Q := h
theorem k_isNn (h : Q (.bl true) H) : kIsN Q .non H := h
theorem k_isNi {j : Int} (h : Q (.bl false) H) : kIsN Q (.int j) H := h
theorem k_isNr {a : Addr} (h : Q (.bl false) H) : kIsN Q (.ref a) H := h
theorem k_isNs {z : Str} (h : Q (.bl false) H) : kIsN Q (.str z) H := h
theorem k_isNb {b : Bool} (h : Q (.bl false) H) : kIsN Q (.bl b) H := h
theorem w_notN (h : ta σ H (kNotN Q)) : tNotN ta σ H Q := h
theorem k_notNn (h : Q (.bl false) H) : kNotN Q .non H := h
theorem k_notNi {j : Int} (h : Q (.bl true) H) : kNotN Q (.int j) H := h
theorem k_notNr {a : Addr} (h : Q (.bl true) H) : kNotN Q (.ref a) H := h
theorem k_notNs {z : Str} (h : Q (.bl true) H) : kNotN Q (.str z) H := h
theorem w_sl {r : V → Option Int → Option Int → Hp → VK → Prop} (h : te σ H (kSl1 r tl th σ Q)) : tSl r te tl th σ H Q := h
theorem w_sl1 {r : V → Option Int → Option Int → Hp → VK → Prop} (h : tl σ H (kSl2 r th x σ Q)) : kSl1 r tl th σ Q x H := h
theorem w_sl2 {r : V → Option Int → Option Int → Hp → VK → Prop} {l : Option Int} (h : th σ H (kSl3 r x l Q)) : kSl2 r th x σ Q l H := h
theorem w_sl3 {r : V → Option Int → Option Int → Hp → VK → Prop} {l o : Option Int} (h : r x l o H Q) : kSl3 r x l Q o H := h
theorem w_part (h : te σ H (kPart QO)) : tPart te σ H QO := h
theorem k_part {j : Int} (h : QO (some j) H) : kPart QO (.int j) H := ⟨j, rfl, h⟩
theorem w_nopart (h : QO none H) : tNoPart σ H QO := h
theorem w_bm {T : String} {r : V → List V → Hp → VK → Prop} (h : ta σ H (kBM1 K T r ts σ Q)) : tBM K T r ta ts σ H Q := h
theorem k_bmL {r : V → List V → Hp → VK → Prop} {a : Addr} (hl : SqL K H a xs) (h : ts σ H (kBM2 r (.ref a) Q)) : kBM1 K "list" r ts σ Q (.ref a) H := ⟨.inl ⟨rfl, xs, hl⟩, h⟩
theorem w_bm2 {r : V → List V → Hp → VK → Prop} (h : r x xs H Q) : kBM2 r x Q xs H := h
theorem w_test (h : te σ H (kTest QB)) : tTest te σ H QB := h
theorem w_tB (h : te σ H (kTest QB)) : tB te σ H QB := h
theorem k_test {b : Bool} (h : QB b H) : kTest QB (.bl b) H := ⟨b, rfl, h⟩
theorem w_and (h : t σ H (kAnd u σ QB)) : tAnd t u σ H QB := h
theorem k_and {b : Bool} (h1 : b = true → u σ H QB) (h2 : b = false → QB false H) : kAnd u σ QB b H := by
  cases b with
  | true => exact h1 rfl
  | false => exact h2 rfl
theorem w_or (h : t σ H (kOr u σ QB)) : tOr t u σ H QB := h
theorem k_or {b : Bool} (h1 : b = true → QB true H) (h2 : b = false → u σ H QB) : kOr u σ QB b H := by
  cases b with
  | true => exact h1 rfl
  | false => exact h2 rfl
theorem w_not (h : t σ H (kNot QB)) : tNot t σ H QB := h
theorem k_not {b : Bool} (h : QB (!b) H) : kNot QB b H := h
theorem k_ifT (h : ta σ H Q) : kIf ta tb σ Q true H := h
theorem k_ifF (h : tb σ H Q) : kIf ta tb σ Q false H := h
theorem k_andVT (h : tb σ H Q) : kAndV tb σ Q (.bl true) H := ⟨true, rfl, h⟩
theorem k_andVF (h : Q (.bl false) H) : kAndV tb σ Q (.bl false) H := ⟨false, rfl, h⟩
theorem k_orVT (h : Q (.bl true) H) : kOrV tb σ Q (.bl true) H := ⟨true, rfl, h⟩
theorem k_orVF (h : tb σ H Q) : kOrV tb σ Q (.bl false) H := ⟨false, rfl, h⟩
theorem k_andT (h : u σ H QB) : kAnd u σ QB true H := h
theorem k_andF (h : QB false H) : kAnd u σ QB false H := h
theorem k_orT (h : QB true H) : kOr u σ QB true H := h
theorem k_orF (h : u σ H QB) : kOr u σ QB false H := h
theorem k_notT (h : QB false H) : kNot QB true H := h
theorem k_notF (h : QB true H) : kNot QB false H := h
theorem k_ifST (h : s1 D σ H) : kIfS s1 s2 D σ true H := h
theorem k_ifSF (h : s2 D σ H) : kIfS s1 s2 D σ false H := h
theorem k_tstT {dd : Addr} {Nx : Hp → Prop} (h : te σ H (kElt dd Nx)) : kTst te dd σ Nx true H := h
theorem k_tstF {dd : Addr} {Nx : Hp → Prop} (h : Nx H) : kTst te dd σ Nx false H := h
theorem w_seq (h : s1 { D with nx := s2 D } σ H) : tSeq s1 s2 D σ H := h
theorem w_asg (h : te σ H (kAsg g D σ)) : tAsg te g D σ H := h
theorem k_name (h : D.nx (σ.set i (some v)) H) : kAsg (gName i) D σ v H := h
theorem k_asg (h : g v σ H D.nx) : kAsg g D σ v H := h
theorem g_name (h : QS (σ.set i (some v)) H) : gName i v σ H QS := h
theorem g_tup {a : Addr} (hs : SqT K H a xs) (hl : xs.length = n) (h : gs xs σ H QS) : gTup K n gs (.ref a) σ H QS := ⟨a, xs, rfl, hs, hl, h⟩
theorem g_cons (h : g v σ H (kGs gs vs QS)) : gCons g gs (v :: vs) σ H QS := ⟨v, vs, rfl, h⟩
theorem k_gs (h : gs vs σ H QS) : kGs gs vs QS σ H := h
theorem g_nil (h : QS σ H) : gNil [] σ H QS := ⟨rfl, h⟩
theorem ixN_lit {n j : Nat} {z : Int} (e : z = (j : Int)) (hj : j < n) : ixN n z = some j := by
  subst e
  unfold ixN
  rw [if_pos (by omega), if_pos (by omega)]
  simp
theorem at_lit (j : Nat) {z : Int} (e : z = (j : Int)) (h : xs[j]? = some v) : atI xs z = some v := by
  subst e
  exact atI_nat h
theorem at_m1 (h : xs.getLast? = some v) : atI xs (-1) = some v := by
  obtain ⟨ys, rfl⟩ := List.getLast?_eq_some_iff.mp h
  exact atI_last _ _
theorem k_sub2G {l : Addr} (j : Nat) {z : Int} (e : z = (j : Int)) (hl : H l = some (.lst xs)) (hj : j < xs.length) (h : ∀ H', But l H H' → H' l = some (.lst (xs.set j v)) → QS σ H') : kSub2 rSetL (.ref l) v σ QS (.int z) H := ⟨l, xs, z, j, rfl, rfl, hl, ixN_lit e hj, h _ But.upd upd_same⟩
theorem g_sub {tset : TSet} (h : ta σ H (kSub1 tb tset v σ QS)) : gSub ta tb tset v σ H QS := h
theorem k_sub1 {tset : TSet} (h : tb σ H (kSub2 tset x v σ QS)) : kSub1 tb tset v σ QS x H := h
theorem k_sub2 {l : Addr} {k : Nat} {z : Int} (hl : H l = some (.lst xs)) (hk : ixN xs.length z = some k) (h : QS σ (upd H l (.lst (xs.set k v)))) : kSub2 rSetL (.ref l) v σ QS (.int z) H := ⟨l, xs, z, k, rfl, rfl, hl, hk, h⟩
theorem w_drop (h : te σ H (kDrop D σ)) : tDrop te D σ H := h
theorem k_drop (h : D.nx σ H) : kDrop D σ v H := h
theorem w_ret (h : te σ H D.rt) : tRet te D σ H := h
theorem w_retN (h : D.rt .non H) : tRetN D σ H := h
theorem w_ifS (h : t σ H (kIfS s1 s2 D σ)) : tIfS t s1 s2 D σ H := h
theorem k_ifS {b : Bool} (h1 : b = true → s1 D σ H) (h2 : b = false → s2 D σ H) : kIfS s1 s2 D σ b H := by
  cases b with
  | true => exact h1 rfl
  | false => exact h2 rfl
theorem w_next (h : D.nx σ H) : tNext D σ H := h
theorem w_aug {ti : TIp} (hx : σ[i]? = some (some x)) (h : te σ H (kAug ti i x D σ)) : tAug i te ti D σ H := ⟨x, hx, h⟩
theorem k_aug {a b : Int} {f : Int → Int → Int} (h : D.nx (σ.set i (some (.int (f a b)))) H) : kAug (ipI f) i (.int a) D σ (.int b) H := ⟨a, b, rfl, rfl, h⟩
theorem w_chain (h : ta σ H (kChain1 r r' tb tc σ Q)) : tChain r r' ta tb tc σ H Q := h
theorem w_chain1 (h : tb σ H (kChain2 r r' tc x σ Q)) : kChain1 r r' tb tc σ Q x H := h
theorem w_chain2 (h : r x y H (kChain3 r' tc y σ Q)) : kChain2 r r' tc x σ Q y H := h
theorem k_chain3 {b : Bool} (h1 : b = true → tc σ H (kOp2 r' y Q)) (h2 : b = false → Q (.bl false) H) : kChain3 r' tc y σ Q (.bl b) H := ⟨b, rfl, by
  cases b with
  | true => exact h1 rfl
  | false => exact h2 rfl⟩
theorem w_lrg1 (h : ta σ H (kRg1 (kLstRg Q))) : tLstRg (tRg1 ta) σ H Q := h
theorem w_lrg2 (h : ta σ H (kRg2 tb σ (kLstRg Q))) : tLstRg (tRg2 ta tb) σ H Q := h
theorem k_rg1 {j : Int} (h : QR 0 j H) : kRg1 QR (.int j) H := ⟨j, rfl, h⟩
theorem k_rg2 (h : tb σ H (kRg3 x QR)) : kRg2 tb σ QR x H := h
theorem k_rg3 {a b : Int} (h : QR a b H) : kRg3 (.int a) QR (.int b) H := ⟨a, b, rfl, rfl, h⟩
theorem k_lrg {a b : Int} (h1 : -1000000 ≤ a) (h2 : a ≤ 1000000) (h3 : -1000000 ≤ b) (h4 : b ≤ 1000000) (h : Fresh H (.lst (rgV a b)) Q) : kLstRg Q a b H := ⟨⟨by omega, by omega, by omega, by omega, by
  have e : (2 : Nat) ^ 24 = 16777216 := by decide
  omega⟩, fresh_of h⟩
/-! operators by values -/
theorem o_addI {a b : Int} (h : Q (.int (a + b)) H) : rAdd K (.int a) (.int b) H Q := .inl ⟨a, b, rfl, rfl, h⟩
theorem o_addT {a b : Addr} {xs ys : List V} (ha : SqT K H a xs) (hb : SqT K H b ys) (hl : xs.length + ys.length ≤ 1000) (h : ∀ p H', Same H H' → SqT K H' p (xs ++ ys) → Q (.ref p) H') : rAdd K (.ref a) (.ref b) H Q :=
  .inr (.inl ⟨a, b, xs, ys, rfl, rfl, ha, hb, Nat.le_trans hl (by decide), fun e => h b H (Same.refl H) (by rw [e]; exact hb), fun _ e => h a H (Same.refl H) (by rw [e, List.append_nil]; exact ha), fun _ _ p np => h p _ (same_new np) (SqT.of upd_same)⟩)
theorem o_addL {a b : Addr} {xs ys : List V} (ha : H a = some (.lst xs)) (hb : H b = some (.lst ys)) (hl : xs.length + ys.length ≤ 100000) (h : Fresh H (.lst (xs ++ ys)) Q) : rAdd K (.ref a) (.ref b) H Q :=
  .inr (.inr (.inl ⟨a, b, xs, ys, rfl, rfl, ha, hb, Nat.le_trans hl (by decide), fresh_of h⟩))
theorem o_mulR {a b : Int} (hb : -(2 ^ 64) < b ∧ b < 2 ^ 64) (h : Q (.int (a * b)) H) : rMul (.int a) (.int b) H Q := .inl ⟨a, b, rfl, rfl, .inr hb, h⟩
theorem o_mulL {a b : Int} (ha : -(2 ^ 64) < a ∧ a < 2 ^ 64) (h : Q (.int (a * b)) H) : rMul (.int a) (.int b) H Q := .inl ⟨a, b, rfl, rfl, .inl ha, h⟩
theorem o_mod {a b : Int} {G : Int → Int → V} (hb : 0 < b) (h : Q (G a b) H) : rI (fun _ j => 0 < j) G (.int a) (.int b) H Q := ⟨a, b, rfl, rfl, hb, h⟩
theorem o_div {a b : Int} (hb : 0 < b) (hz : b < 2 ^ 64) (h : Q (.int (a / b)) H) : rI CDivW (fun i j => .int (i / j)) (.int a) (.int b) H Q := ⟨a, b, rfl, rfl, wide_div (b := 64) hb (by omega) (by decide) (by decide), h⟩
theorem o_I0 {a b : Int} {G : Int → Int → V} (h : Q (G a b) H) : rI0 G (.int a) (.int b) H Q := ⟨a, b, rfl, rfl, h⟩
theorem o_lt {a b : Int} (h : Q (.bl (decide (a < b))) H) : rLt (.int a) (.int b) H Q := ⟨a, b, rfl, rfl, h⟩
theorem o_eqI {a b : Int} (h : Q (.bl (decide (a = b))) H) : rEqG K (.int a) (.int b) H Q := .inl ⟨rfl, by
  have e : decide (V.int a = V.int b) = decide (a = b) := by
    rw [dec_int, Bool.beq_eq_decide_eq]
  rw [e]
  exact h⟩
theorem o_eqB {a b : Bool} (h : Q (.bl (decide (a = b))) H) : rEqG K (.bl a) (.bl b) H Q := .inl ⟨rfl, by
  have e : decide (V.bl a = V.bl b) = decide (a = b) := by
    rw [dec_bl, Bool.beq_eq_decide_eq]
  rw [e]
  exact h⟩
theorem o_eqS {a b : Str} (h : Q (.bl (decide (a = b))) H) : rEqG K (.str a) (.str b) H Q := .inl ⟨rfl, by
  have e : decide (V.str a = V.str b) = decide (a = b) := by
    rw [dec_str, Bool.beq_eq_decide_eq]
  rw [e]
  exact h⟩
theorem o_neI {a b : Int} (h : Q (.bl (!decide (a = b))) H) : rNeG K (.int a) (.int b) H Q := .inl ⟨rfl, by
  have e : decide (V.int a = V.int b) = decide (a = b) := by
    rw [dec_int, Bool.beq_eq_decide_eq]
  rw [e]
  exact h⟩
theorem o_neS {a b : Str} (h : Q (.bl (!decide (a = b))) H) : rNeG K (.str a) (.str b) H Q := .inl ⟨rfl, by
  have e : decide (V.str a = V.str b) = decide (a = b) := by
    rw [dec_str, Bool.beq_eq_decide_eq]
  rw [e]
  exact h⟩
theorem o_ixL {p : Addr} {z : Int} (hs : SqL K H p xs) (ha : atI xs z = some v) (h : Q v H) : rIx K (.ref p) (.int z) H Q := .inl ⟨p, xs, z, v, rfl, rfl, hs, ha, h⟩
theorem o_ixT {p : Addr} {z : Int} (hs : SqT K H p xs) (ha : atI xs z = some v) (h : Q v H) : rIx K (.ref p) (.int z) H Q := .inr (.inl ⟨p, xs, z, v, rfl, rfl, hs, ha, h⟩)
theorem o_neg {a : Int} {G : Int → V} (h : Q (G a) H) : rU G (.int a) H Q := ⟨a, rfl, h⟩
theorem o_lenL {p : Addr} (hs : SqL K H p xs) (h : Q (.int xs.length) H) : rLenG K [.ref p] H Q := ⟨.ref p, xs.length, rfl, .inl ⟨xs, hs, rfl⟩, h⟩
theorem o_lenT {p : Addr} (hs : SqT K H p xs) (h : Q (.int xs.length) H) : rLenG K [.ref p] H Q := ⟨.ref p, xs.length, rfl, .inr ⟨xs, hs, rfl⟩, h⟩
theorem o_int1 {a : Int} (h : Q (.int a) H) : rInt1 [.int a] H Q := .inl ⟨a, rfl, h⟩
theorem o_listL {p : Addr} (hs : SqL K H p xs) (h : Fresh H (.lst xs) Q) : rListOf K [.ref p] H Q := ⟨p, xs, rfl, .inl hs, fresh_of h⟩
theorem o_listT {p : Addr} (hs : SqT K H p xs) (h : Fresh H (.lst xs) Q) : rListOf K [.ref p] H Q := ⟨p, xs, rfl, .inr hs, fresh_of h⟩
theorem o_tupL {p : Addr} (hs : SqL K H p xs) (h : Fresh H (.tup xs) Q) : rTupOf K [.ref p] H Q := ⟨p, xs, rfl, .inl ⟨hs, fresh_of h⟩⟩
theorem o_tupT {p : Addr} (hs : SqT K H p xs) (h : Q (.ref p) H) : rTupOf K [.ref p] H Q := ⟨p, xs, rfl, .inr ⟨hs, h⟩⟩
theorem o_max2 {a b : Int} (h : Q (.int (if b > a then b else a)) H) : rMx2 [.int a, .int b] H Q := ⟨a, b, rfl, h⟩
theorem o_min2 {a b : Int} (h : Q (.int (if b < a then b else a)) H) : rMn2 [.int a, .int b] H Q := ⟨a, b, rfl, h⟩
theorem o_neB {a b : Bool} (h : Q (.bl (!decide (a = b))) H) : rNeG K (.bl a) (.bl b) H Q := .inl ⟨rfl, by
  have e : decide (V.bl a = V.bl b) = decide (a = b) := by
    rw [dec_bl, Bool.beq_eq_decide_eq]
  rw [e]
  exact h⟩
theorem o_neTT (h : Q (.bl false) H) : rNeG K (.bl true) (.bl true) H Q := o_neB h
theorem o_neFF (h : Q (.bl false) H) : rNeG K (.bl false) (.bl false) H Q := o_neB h
theorem o_neTF (h : Q (.bl true) H) : rNeG K (.bl true) (.bl false) H Q := o_neB h
theorem o_neFT (h : Q (.bl true) H) : rNeG K (.bl false) (.bl true) H Q := o_neB h
theorem ty_T {p : Addr} (hs : SqT K H p xs) : TyX K H (.ref p) (.type "tuple") := by
  rcases hs with (h | ⟨o, h⟩) | ⟨o, its, n, h, c, _⟩
  · exact .base (.tup h)
  · exact .fTuple h
  · exact .kTuple h c
theorem ty_L {p : Addr} (hs : SqL K H p xs) : TyX K H (.ref p) (.type "list") := by
  rcases hs with (h | ⟨o, h⟩) | ⟨o, its, n, h, c, _⟩
  · exact .base (.lst h)
  · exact .base (.frz h)
  · exact .kList h c
theorem o_isi {T S : String} {b : Bool} (ht : TyX K H x (.type T)) (hk : kitB T S = some b) (h : Q (.bl b) H) : rIsi K [x, .ty S] H Q := ⟨x, .ty S, .type T, .type S, b, rfl, .ty S, ht, kit_ty hk, h⟩
theorem o_isiT {T S : String} (ht : TyX K H x (.type T)) (hk : kitB T S = some true) (h : Q (.bl true) H) : rIsi K [x, .ty S] H Q := o_isi ht hk h
theorem o_isiF {T S : String} (ht : TyX K H x (.type T)) (hk : kitB T S = some false) (h : Q (.bl false) H) : rIsi K [x, .ty S] H Q := o_isi ht hk h
theorem o_app {l : Addr} (hl : H l = some (.lst xs)) (hz : xs.length < 100000) (h : Q .non (upd H l (.lst (xs ++ [v])))) : rAppend (.ref l) [v] H Q := ⟨l, xs, v, rfl, rfl, hl, Nat.lt_of_lt_of_le hz (by decide), h⟩
theorem o_inL {p : Addr} {neg : Bool} (hs : SqL K H p xs) (hx : flatV x = true) (ha : xs.all flatV = true) (h : Q (.bl (if neg then !inV x xs else inV x xs)) H) : rIn K neg x (.ref p) H Q := ⟨p, xs, rfl, .inl hs, hx, ha, h⟩
theorem o_inT {p : Addr} {neg : Bool} (hs : SqT K H p xs) (hx : flatV x = true) (ha : xs.all flatV = true) (h : Q (.bl (if neg then !inV x xs else inV x xs)) H) : rIn K neg x (.ref p) H Q := ⟨p, xs, rfl, .inr hs, hx, ha, h⟩
theorem o_slL {p : Addr} {lo hi : Option Int} (hs : SqL K H p xs) (h : Fresh H (.lst (cutV xs lo hi)) Q) : rSl K (.ref p) lo hi H Q := .inl ⟨p, xs, rfl, hs, fresh_of h⟩
theorem o_slT {p : Addr} {lo hi : Option Int} (hs : SqT K H p xs) (h : ∀ q H', Same H H' → SqT K H' q (cutV xs lo hi) → Q (.ref q) H') : rSl K (.ref p) lo hi H Q := .inr ⟨p, xs, rfl, hs, fun e => h p H (Same.refl H) (by
  unfold cutV
  rw [e.1, e.2, List.drop_zero, Nat.sub_zero, List.take_length]
  exact hs), fun _ q nq => h q _ (same_new nq) (SqT.of upd_same)⟩
/-! loops -/
theorem w_forL (h : te σ H (kForL K g s1 D σ)) : tFor (iSeq K te) g s1 D σ H := .inl h
theorem w_forT (h : te σ H (kForT K g s1 D σ)) : tFor (iSeq K te) g s1 D σ H := .inr h
theorem w_forR1 (h : ts σ H (kForR1 g s1 D σ)) : tFor (iRng1 ts) g s1 D σ H := h
theorem w_forR2 (h : ts σ H (kForR2 g s1 D σ)) : tFor (iRng2 ts) g s1 D σ H := h
theorem k_forL {a : Addr} (Pv : Nat → L2.St → Hp → Prop) (hq : SqL K H a xs) (h0 : Pv 0 σ H) (hl : ∀ i σ H, i ≤ xs.length → Pv i σ H → SqL K H a xs)
    (hs : ∀ i x σ H, xs[i]? = some x → Pv i σ H → g x σ H (s1 { D with nx := Pv (i + 1), ct := Pv (i + 1), bk := D.nx })) (hd : ∀ σ H, Pv xs.length σ H → D.nx σ H) : kForL K g s1 D σ (.ref a) H :=
  ⟨a, rfl, ⟨xs, hq⟩, for_list Pv h0 hl hs hd⟩
theorem k_forT {a : Addr} (Pv : Nat → L2.St → Hp → Prop) (hq : SqT K H a xs) (h0 : Pv 0 σ H) (hl : ∀ i σ H, i ≤ xs.length → Pv i σ H → SqT K H a xs)
    (hs : ∀ i x σ H, xs[i]? = some x → Pv i σ H → g x σ H (s1 { D with nx := Pv (i + 1), ct := Pv (i + 1), bk := D.nx })) (hd : ∀ σ H, Pv xs.length σ H → D.nx σ H) : kForT K g s1 D σ (.ref a) H :=
  ⟨a, rfl, ⟨xs, hq⟩, for_tup Pv h0 hl hs hd⟩
theorem k_forR1 {j : Int} (Pv : Nat → L2.St → Hp → Prop) (hj : -1000000 ≤ j ∧ j ≤ 1000000) (h0 : Pv 0 σ H)
    (hs : ∀ (i : Nat) σ H, (i : Int) < j → Pv i σ H → g (.int (i : Int)) σ H (s1 { D with nx := Pv (i + 1), ct := Pv (i + 1), bk := D.nx })) (hd : ∀ σ H, Pv j.toNat σ H → D.nx σ H) : kForR1 g s1 D σ [.int j] H :=
  ⟨j, rfl, by omega, by omega, for_range (lo := 0) (n := j.toNat) Pv h0 (fun i σ H hi p => by
    rw [Int.zero_add]
    exact hs i σ H (by omega) p) hd⟩
theorem k_forR2 {lo j : Int} (Pv : Nat → L2.St → Hp → Prop) (hj : -1000000 ≤ lo ∧ lo ≤ 1000000 ∧ -1000000 ≤ j ∧ j ≤ 1000000) (h0 : Pv 0 σ H)
    (hs : ∀ (i : Nat) σ H, lo + (i : Int) < j → Pv i σ H → g (.int (lo + (i : Int))) σ H (s1 { D with nx := Pv (i + 1), ct := Pv (i + 1), bk := D.nx })) (hd : ∀ σ H, Pv (j - lo).toNat σ H → D.nx σ H) : kForR2 g s1 D σ [.int lo, .int j] H :=
  ⟨lo, j, rfl, ⟨by omega, by omega, by omega, by omega⟩, for_range (lo := lo) (n := (j - lo).toNat) Pv h0 (fun i σ H hi p => hs i σ H (by omega) p) hd⟩
theorem w_lcL {ws : List Nat} (h : ta σ H (kLcL K g t te ws σ Q)) : tLc (iSeq K ta) g t te ws σ H Q := .inl h
theorem w_lcT {ws : List Nat} (h : ta σ H (kLcT K g t te ws σ Q)) : tLc (iSeq K ta) g t te ws σ H Q := .inr h
theorem w_lcR1 {ws : List Nat} (h : ts σ H (kLcR1 g t te ws σ Q)) : tLc (iRng1 ts) g t te ws σ H Q := h
theorem w_lcR2 {ws : List Nat} (h : ts σ H (kLcR2 g t te ws σ Q)) : tLc (iRng2 ts) g t te ws σ H Q := h
/-- a comprehension's turns: Pv by the turn, the list's items so far and the heap -/
def kTurn (t : TT) (te : TE) (D : Addr) (ws : List Nat) (σ : L2.St) (Nx : Hp → Prop) : L2.St → Hp → Prop := fun σ2 H2 => wipe σ2 ws = wipe σ ws ∧ t σ2 H2 (kTst te D σ2 Nx)
theorem k_turn {dd : Addr} {ws : List Nat} {σ0 : L2.St} {Nx : Hp → Prop} (e : wipe σ ws = wipe σ0 ws) (h : t σ H (kTst te dd σ Nx)) : kTurn t te dd ws σ0 Nx σ H := ⟨e, h⟩
theorem k_yes {dd : Addr} {Nx : Hp → Prop} (h : te σ H (kElt dd Nx)) : tYes σ H (kTst te dd σ Nx) := h
theorem k_tst {dd : Addr} {Nx : Hp → Prop} {b : Bool} (h1 : b = true → te σ H (kElt dd Nx)) (h2 : b = false → Nx H) : kTst te dd σ Nx b H := by
  cases b with
  | true => exact h1 rfl
  | false => exact h2 rfl
theorem k_elt {dd : Addr} {Nx : Hp → Prop} {acc : List V} (hd : H dd = some (.lst acc)) (hz : acc.length < 100000) (h : Nx (upd H dd (.lst (acc ++ [v])))) : kElt dd Nx v H := ⟨acc, hd, Nat.lt_of_lt_of_le hz (by decide), h⟩
theorem k_lcL {a : Addr} {ws : List Nat} (hq : SqL K H a xs) (h : ∀ dd, H dd = none → ∃ Pv : Nat → Hp → Prop, Pv 0 (upd H dd (.lst [])) ∧ (∀ i H, i ≤ xs.length → Pv i H → SqL K H a xs) ∧
    (∀ i x H, xs[i]? = some x → Pv i H → g x (wipe σ ws) H (kTurn t te dd ws σ (Pv (i + 1)))) ∧ ∀ H, Pv xs.length H → Q (.ref dd) H) : kLcL K g t te ws σ Q (.ref a) H :=
  ⟨a, rfl, ⟨xs, hq⟩, fun dd hd => by
    obtain ⟨Pv, h0, hl, hs, he⟩ := h dd hd
    exact lc_list Pv h0 hl hs he⟩
theorem k_lcT {a : Addr} {ws : List Nat} (hq : SqT K H a xs) (h : ∀ dd, H dd = none → ∃ Pv : Nat → Hp → Prop, Pv 0 (upd H dd (.lst [])) ∧ (∀ i H, i ≤ xs.length → Pv i H → SqT K H a xs) ∧
    (∀ i x H, xs[i]? = some x → Pv i H → g x (wipe σ ws) H (kTurn t te dd ws σ (Pv (i + 1)))) ∧ ∀ H, Pv xs.length H → Q (.ref dd) H) : kLcT K g t te ws σ Q (.ref a) H :=
  ⟨a, rfl, ⟨xs, hq⟩, fun dd hd => by
    obtain ⟨Pv, h0, hl, hs, he⟩ := h dd hd
    exact lc_tup Pv h0 hl hs he⟩
theorem k_lcR1 {j : Int} {ws : List Nat} (hj : -1000000 ≤ j ∧ j ≤ 1000000) (h : ∀ dd, H dd = none → ∃ Pv : Nat → Hp → Prop, Pv 0 (upd H dd (.lst [])) ∧
    (∀ (i : Nat) H, (i : Int) < j → Pv i H → g (.int (i : Int)) (wipe σ ws) H (kTurn t te dd ws σ (Pv (i + 1)))) ∧ ∀ H, Pv j.toNat H → Q (.ref dd) H) : kLcR1 g t te ws σ Q [.int j] H :=
  ⟨j, rfl, by omega, by omega, fun dd hd => by
    obtain ⟨Pv, h0, hs, he⟩ := h dd hd
    exact lc_range (lo := 0) (n := j.toNat) Pv h0 (fun i H hi p => by
      rw [Int.zero_add]
      exact hs i H (by omega) p) he⟩
theorem k_lcR2 {lo j : Int} {ws : List Nat} (hj : -1000000 ≤ lo ∧ lo ≤ 1000000 ∧ -1000000 ≤ j ∧ j ≤ 1000000) (h : ∀ dd, H dd = none → ∃ Pv : Nat → Hp → Prop, Pv 0 (upd H dd (.lst [])) ∧
    (∀ (i : Nat) H, lo + (i : Int) < j → Pv i H → g (.int (lo + (i : Int))) (wipe σ ws) H (kTurn t te dd ws σ (Pv (i + 1)))) ∧ ∀ H, Pv (j - lo).toNat H → Q (.ref dd) H) : kLcR2 g t te ws σ Q [.int lo, .int j] H :=
  ⟨lo, j, rfl, ⟨by omega, by omega, by omega, by omega⟩, fun dd hd => by
    obtain ⟨Pv, h0, hs, he⟩ := h dd hd
    exact lc_range (lo := lo) (n := (j - lo).toNat) Pv h0 (fun i H hi p => hs i H (by omega) p) he⟩
def kWhile (s1 : TS) (D : Ends) (W : Nat → L2.St → Hp → Prop) (m : Nat) (σ : L2.St) : Bool → Hp → Prop := fun b H1 => if b = true then ∃ N : L2.St → Hp → Prop, (∀ σ' H', N σ' H' → ∃ m', m' < m ∧ W m' σ' H') ∧ s1 { D with nx := N, ct := N, bk := D.nx } σ H1 else D.nx σ H1
theorem w_whileW (W : Nat → L2.St → Hp → Prop) {m0 : Nat} (h0 : W m0 σ H) (hs : ∀ m σ H, W m σ H → t σ H (kWhile s1 D W m σ)) : tWhile t s1 D σ H := ⟨W, ⟨m0, h0⟩, hs⟩
theorem k_while {W : Nat → L2.St → Hp → Prop} {m : Nat} {b : Bool} (h1 : b = true → s1 { D with nx := fun σ' H' => ∃ m', m' < m ∧ W m' σ' H', ct := fun σ' H' => ∃ m', m' < m ∧ W m' σ' H', bk := D.nx } σ H) (h2 : b = false → D.nx σ H) : kWhile s1 D W m σ b H := by
  cases b with
  | true => exact ⟨_, fun σ' H' x => x, h1 rfl⟩
  | false => exact h2 rfl
theorem o_eqNS {z : Str} (h : Q (.bl false) H) : rEqG K .non (.str z) H Q := .inl ⟨rfl, h⟩
/-- a cut behind a statement -/
theorem w_seqJ (P : L2.St → Hp → Prop) (h2 : ∀ σ' H', P σ' H' → s2 D σ' H') (h1 : ∀ N : L2.St → Hp → Prop, (∀ σ' H', P σ' H' → N σ' H') → s1 { D with nx := N } σ H) : tSeq s1 s2 D σ H := h1 (s2 D) h2
theorem w_cut (P : L2.St → Hp → Prop) (h2 : ∀ σ' H', P σ' H' → D.nx σ' H') (h1 : ∀ N : L2.St → Hp → Prop, (∀ σ' H', P σ' H' → N σ' H') → s1 { D with nx := N } σ H) : s1 D σ H := h1 D.nx h2
/-- while, by a word with a measure -/
theorem w_while (W : Nat → L2.St → Hp → Prop) {m0 : Nat} (h0 : W m0 σ H) (hs : ∀ m σ H, W m σ H → t σ H fun b H1 => if b = true then s1 { D with nx := fun σ' H' => ∃ m', m' < m ∧ W m' σ' H', ct := fun σ' H' => ∃ m', m' < m ∧ W m' σ' H', bk := D.nx } σ H1 else D.nx σ H1)
    (mono : ∀ σ H (Q Q' : Bool → Hp → Prop), (∀ b H1, Q b H1 → Q' b H1) → t σ H Q → t σ H Q') : tWhile t s1 D σ H :=
  ⟨W, ⟨m0, h0⟩, fun m σ H p => mono σ H _ _ (fun b H1 q => by
    cases b with
    | true => exact ⟨_, fun σ' H' x => x, q⟩
    | false => exact q) (hs m σ H p)⟩
end
end Tw
namespace Tw
open PySem PySem.Spec PyProof.Rows L2
section
variable {prog : Program} {w : World} {A : Around} {E : Value → Shared → Prop} {s : Shared} {l : Addr} {its : List Value} {ns : List Int} {Q : Value → Shared → Prop}
theorem old_tup {h' : Heap} {o0 : Obj} (hk : ∀ b o, b ∉ [s.heap.objs.size] → (s.heap.push o0).get? b = some o → h'.get? b = some o) : ∀ b o, s.heap.get? b = some o → h'.get? b = some o := fun b o e =>
  hk b o (fun hb => absurd (Heap.lt_size e) ((List.mem_singleton.mp hb) ▸ Nat.lt_irrefl _)) (Heap.get?_push_of_some _ e)
theorem iter_tupX {vs : Array Value} {Q : Value → Shared → Prop} (hl : s.heap.IsTuple l vs)
    (h : ∀ s₂ : Shared, s₂ = { s with heap := s.heap.push { cls := .type "tuple_iterator", data := .fields #[.ref l, .int 0 0] } } →
      (s₂.heap.IsTupleIter s.heap.objs.size l 0 ∧ s₂.heap.IsTuple l vs) → (∀ b ∈ [s.heap.objs.size, l], b < s₂.heap.objs.size) → l ≠ s.heap.objs.size → Q (.ref s.heap.objs.size) s₂) :
    wpAny (model prog w) A (pyIter (.ref l)) Q E s := by
  have hlt : l < s.heap.objs.size := by obtain ⟨_, e, _⟩ := hl; exact Heap.lt_size e
  refine wpAny_pyIter_tuple hl (h _ rfl ⟨⟨_, Heap.get?_push_size _ rfl, rfl, rfl⟩, hl.push _⟩ (fun b hb => ?_) (Nat.ne_of_lt hlt))
  show b < (s.heap.push _).objs.size
  rw [Heap.size_push]
  rcases List.mem_cons.mp hb with rfl | hb
  · exact Nat.lt_succ_self _
  · rcases List.mem_cons.mp hb with rfl | hb
    · exact Nat.lt_succ_of_lt hlt
    · cases hb
theorem sum_tupRaw (hh : A.handled = none) (hl : s.heap.IsTuple l its.toArray) (hi : IntsAre its ns)
    (h : ∀ h' tk t', (∀ b o, s.heap.get? b = some o → h'.get? b = some o) → Q (.int ns.sum t') { s with heap := h', toks := tk }) : wpAny (model prog w) A (call (.builtin "sum") [.ref l]) Q E s := by
  obtain ⟨xs, e⟩ := hi.allInts.items
  have hn : numsOf (intItems xs).toList = ns := by rw [← e]; exact hi.numsOf
  rw [nums_intItems] at hn
  rw [e] at hl
  refine call_sum_walkG (iter_tupX hl fun s₂ e2 st hfp hlI => ?_)
  subst e2
  refine ⟨_, _, _, _, _, _, numAt xs, rfl, Walks.tuple (A := A.in1) hh _ l hlI (intItems xs), st, hfp, (fun _ _ => intItems_at), fun h' tk t' hk => ?_⟩
  have := h h' tk t' (old_tup hk)
  rw [show (intItems xs).size = xs.size by simp [intItems], preSum_eq, List.take_of_length_le (by simp), hn]
  exact this
theorem max_tupRaw (hh : A.handled = none) (hl : s.heap.IsTuple l its.toArray) (hi : IntsAre its ns) (hne : 0 < ns.length)
    (h : ∀ h' tk M t', (∀ b o, s.heap.get? b = some o → h'.get? b = some o) → M ∈ ns → (∀ a, a ∈ ns → a ≤ M) → Q (.int M t') { s with heap := h', toks := tk }) : wpAny (model prog w) A (call (.builtin "max") [.ref l]) Q E s := by
  obtain ⟨xs, e⟩ := hi.allInts.items
  have hn : numsOf (intItems xs).toList = ns := by rw [← e]; exact hi.numsOf
  rw [nums_intItems] at hn
  subst hn
  rw [e] at hl
  have hsz : 0 < xs.size := by simpa using hne
  refine call_max_walk (iter_tupX hl fun s₂ e2 st hfp hlI => ?_)
  subst e2
  refine ⟨_, _, _, _, _, _, _, rfl, Walks.tuple (A := A.in1) hh _ l hlI (intItems xs), st, hfp, by simpa [intItems] using hsz, CmpOf.ints_gt (numAt xs) (fun _ _ => intItems_at), fun v h' tk hP hk => ?_⟩
  have hv : (intItems xs)[argBest (fun i j => decide (numAt xs i > numAt xs j)) (xs.size - 1)]? = some v := by simpa [intItems] using hP
  obtain ⟨t, rfl⟩ := intItems_at hv
  obtain ⟨h1, h2⟩ := argBest_gt (numAt xs) (xs.size - 1)
  refine h h' tk _ t (old_tup hk) ?_ fun a ha => ?_
  · rw [numAt_eq]; exact PySem.getD_mem (by rw [List.length_map, Array.length_toList]; omega)
  · obtain ⟨j, hj, rfl⟩ := mem_getD ha
    rw [List.length_map, Array.length_toList] at hj
    rw [← numAt_eq]; exact h2 j (by omega)
theorem min_tupRaw (hh : A.handled = none) (hl : s.heap.IsTuple l its.toArray) (hi : IntsAre its ns) (hne : 0 < ns.length)
    (h : ∀ h' tk M t', (∀ b o, s.heap.get? b = some o → h'.get? b = some o) → M ∈ ns → (∀ a, a ∈ ns → M ≤ a) → Q (.int M t') { s with heap := h', toks := tk }) : wpAny (model prog w) A (call (.builtin "min") [.ref l]) Q E s := by
  obtain ⟨xs, e⟩ := hi.allInts.items
  have hn : numsOf (intItems xs).toList = ns := by rw [← e]; exact hi.numsOf
  rw [nums_intItems] at hn
  subst hn
  rw [e] at hl
  have hsz : 0 < xs.size := by simpa using hne
  refine call_min_walk (iter_tupX hl fun s₂ e2 st hfp hlI => ?_)
  subst e2
  refine ⟨_, _, _, _, _, _, _, rfl, Walks.tuple (A := A.in1) hh _ l hlI (intItems xs), st, hfp, by simpa [intItems] using hsz, CmpOf.ints_lt (numAt xs) (fun _ _ => intItems_at), fun v h' tk hP hk => ?_⟩
  have hv : (intItems xs)[argBest (fun i j => decide (numAt xs i < numAt xs j)) (xs.size - 1)]? = some v := by simpa [intItems] using hP
  obtain ⟨t, rfl⟩ := intItems_at hv
  obtain ⟨h1, h2⟩ := argBest_lt (numAt xs) (xs.size - 1)
  refine h h' tk _ t (old_tup hk) ?_ fun a ha => ?_
  · rw [numAt_eq]; exact PySem.getD_mem (by rw [List.length_map, Array.length_toList]; omega)
  · obtain ⟨j, hj, rfl⟩ := mem_getD ha
    rw [List.length_map, Array.length_toList] at hj
    rw [← numAt_eq]; exact h2 j (by omega)
end
section
variable {X : Cx} {K : PySem.W.Frag}
theorem orC {id : String} {r1 r2 : List V → Hp → VK → Prop} (h1 : CallR X (.builtin id) r1) (h2 : CallR X (.builtin id) r2) : CallR X (.builtin id) (fun vs H Q => r1 vs H Q ∨ r2 vs H Q) :=
  fun pins s σ H vs us Q I r h => h.elim (h1 pins s σ H vs us Q I r) (h2 pins s σ H vs us Q I r)
def rSumT (K : PySem.W.Frag) : List V → Hp → VK → Prop := fun vs H Q => ∃ (a : Addr) (ns : List Int), vs = [V.ref a] ∧ SqT K H a (ns.map V.int) ∧ Q (.int ns.sum) H
def rMaxT (K : PySem.W.Frag) : List V → Hp → VK → Prop := fun vs H Q => ∃ (a : Addr) (ns : List Int), vs = [V.ref a] ∧ SqT K H a (ns.map V.int) ∧ 0 < ns.length ∧ ∀ m, m ∈ ns → (∀ y, y ∈ ns → y ≤ m) → Q (.int m) H
def rMinT (K : PySem.W.Frag) : List V → Hp → VK → Prop := fun vs H Q => ∃ (a : Addr) (ns : List Int), vs = [V.ref a] ∧ SqT K H a (ns.map V.int) ∧ 0 < ns.length ∧ ∀ m, m ∈ ns → (∀ y, y ∈ ns → m ≤ y) → Q (.int m) H
theorem cr_sumT (hc : X.calm = true) : CallR X (.builtin "sum") (rSumT X.K) := by
  intro pins s σ H vs us Q I r h
  obtain ⟨a, ns, rfl, hs, q⟩ := h
  obtain ⟨its, rv, hl, _⟩ := I.tuple hs
  rw [Vals.ref1 r]
  exact sum_tupRaw (I.ok.hd hc) hl rv.ints fun h' tk t' hk => ⟨.int _, H, I.kept hk, ⟨_, rfl⟩, q⟩
theorem cr_maxT (hc : X.calm = true) : CallR X (.builtin "max") (rMaxT X.K) := by
  intro pins s σ H vs us Q I r h
  obtain ⟨a, ns, rfl, hs, hne, q⟩ := h
  obtain ⟨its, rv, hl, _⟩ := I.tuple hs
  rw [Vals.ref1 r]
  exact max_tupRaw (I.ok.hd hc) hl rv.ints hne fun h' tk m t' hk h1 h2 => ⟨.int _, H, I.kept hk, ⟨_, rfl⟩, q m h1 h2⟩
theorem cr_minT (hc : X.calm = true) : CallR X (.builtin "min") (rMinT X.K) := by
  intro pins s σ H vs us Q I r h
  obtain ⟨a, ns, rfl, hs, hne, q⟩ := h
  obtain ⟨its, rv, hl, _⟩ := I.tuple hs
  rw [Vals.ref1 r]
  exact min_tupRaw (I.ok.hd hc) hl rv.ints hne fun h' tk m t' hk h1 h2 => ⟨.int _, H, I.kept hk, ⟨_, rfl⟩, q m h1 h2⟩
def rSumG (K : PySem.W.Frag) : List V → Hp → VK → Prop := fun vs H Q => rSum K vs H Q ∨ rSumT K vs H Q
def rMaxG (K : PySem.W.Frag) : List V → Hp → VK → Prop := fun vs H Q => rMax K vs H Q ∨ rMaxT K vs H Q
def rMinG (K : PySem.W.Frag) : List V → Hp → VK → Prop := fun vs H Q => rMin K vs H Q ∨ rMinT K vs H Q
theorem callSumG (e : X.K = K) (hc : X.calm = true) : CallR X (.builtin "sum") (rSumG K) := e ▸ orC (cr_sum hc) (cr_sumT hc)
theorem callMaxG (e : X.K = K) (hc : X.calm = true) : CallR X (.builtin "max") (rMaxG K) := e ▸ orC (cr_max hc) (cr_maxT hc)
theorem callMinG (e : X.K = K) (hc : X.calm = true) : CallR X (.builtin "min") (rMinG K) := e ▸ orC (cr_min hc) (cr_minT hc)
end
section
variable {K : PySem.W.Frag} {H : Hp} {Q : VK} {p : Addr} {ns : List Int}
theorem o_sumL (hs : SqL K H p (ns.map V.int)) (h : Q (.int ns.sum) H) : rSumG K [.ref p] H Q := .inl ⟨p, ns, rfl, hs, h⟩
theorem o_sumT (hs : SqT K H p (ns.map V.int)) (h : Q (.int ns.sum) H) : rSumG K [.ref p] H Q := .inr ⟨p, ns, rfl, hs, h⟩
theorem o_maxL (hs : SqL K H p (ns.map V.int)) (hn : 0 < ns.length) (h : ∀ m, m ∈ ns → (∀ y, y ∈ ns → y ≤ m) → Q (.int m) H) : rMaxG K [.ref p] H Q := .inl ⟨p, ns, rfl, hs, hn, h⟩
theorem o_maxT (hs : SqT K H p (ns.map V.int)) (hn : 0 < ns.length) (h : ∀ m, m ∈ ns → (∀ y, y ∈ ns → y ≤ m) → Q (.int m) H) : rMaxG K [.ref p] H Q := .inr ⟨p, ns, rfl, hs, hn, h⟩
theorem o_minL (hs : SqL K H p (ns.map V.int)) (hn : 0 < ns.length) (h : ∀ m, m ∈ ns → (∀ y, y ∈ ns → m ≤ y) → Q (.int m) H) : rMinG K [.ref p] H Q := .inl ⟨p, ns, rfl, hs, hn, h⟩
theorem o_minT (hs : SqT K H p (ns.map V.int)) (hn : 0 < ns.length) (h : ∀ m, m ∈ ns → (∀ y, y ∈ ns → m ≤ y) → Q (.int m) H) : rMinG K [.ref p] H Q := .inr ⟨p, ns, rfl, hs, hn, h⟩
end
end Tw

namespace Tw
open PySem PySem.Spec PyProof.Rows L2
/-! ### the law's own draws -/
/-- a pool stands at p -/
def PoolAt (H : Hp) (p l : Addr) : Prop := ∃ (ns : List Int) (a b c d : Int), H p = some (.lst [.ref l, .int a, .int b, .int c, .int d]) ∧ H l = some (.lst (ns.map V.int)) ∧ ns.length ≤ 63 ∧ 0 ≤ a ∧ 0 ≤ b
theorem PoolAt.same {H H' : Hp} {p l : Addr} (h : PoolAt H p l) (e : Same H H') : PoolAt H' p l := by
  obtain ⟨ns, a, b, c, d, h1, h2, h3⟩ := h
  exact ⟨ns, a, b, c, d, e _ _ h1, e _ _ h2, h3⟩
theorem PoolAt.upd {H : Hp} {p l f : Addr} {o : HO} (h : PoolAt H p l) (hp : f ≠ p) (hl : f ≠ l) : PoolAt (L2.upd H f o) p l := by
  obtain ⟨ns, a, b, c, d, h1, h2, h3⟩ := h
  exact ⟨ns, a, b, c, d, by rw [upd_ne hp.symm]; exact h1, by rw [upd_ne hl.symm]; exact h2, h3⟩
theorem PoolAt.np {H : Hp} {p l f : Addr} (h : PoolAt H p l) (hf : H f = none) : f ≠ p := by
  obtain ⟨ns, a, b, c, d, h1, h2, h3⟩ := h
  exact (ne_of_none h1 hf).symm
theorem PoolAt.nl {H : Hp} {p l f : Addr} (h : PoolAt H p l) (hf : H f = none) : f ≠ l := by
  obtain ⟨ns, a, b, c, d, h1, h2, h3⟩ := h
  exact (ne_of_none h2 hf).symm
theorem But.mut {H H' : Hp} {p f : Addr} {o : HO} (e : But p H H') (h : H f = none) : But p H (L2.upd H' f o) := fun a u n ha => by
  rw [upd_ne (ne_of_none ha h)]
  exact e a u n ha
/-- what is not at p is new behind both -/
theorem But.free {H H' : Hp} {p f : Addr} (e : But p H H') (hf : H' f = none) (n : f ≠ p) : H f = none := by
  cases q : H f with
  | none => rfl
  | some o =>
    rw [e f o n q] at hf
    cases hf
def sp__law_pool (K : PySem.W.Frag) : Sp := fun vs H Q _ => ∃ (a : Addr) (ns : List Int), vs = [.ref a] ∧ SqL K H a (ns.map V.int) ∧ ns.length ≤ 63 ∧ ∀ p l H', Same H H' → H p = none → H l = none → PoolAt H' p l → Q (.ref p) H'
def sp__law_spread (_ : PySem.W.Frag) : Sp := fun vs H Q _ => ∃ (c : Int), vs = [.int c] ∧ ∀ v, 0 < v → Q (.int v) H
def sp__law_draw (_ : PySem.W.Frag) : Sp := fun vs H Q _ => ∃ (p l : Addr) (m : Int), vs = [.ref p, .int m] ∧ 0 < m ∧ m < 2 ^ 64 ∧ PoolAt H p l ∧ ∀ v H', 0 ≤ v → v < m → But p H H' → PoolAt H' p l → Q (.int v) H'
theorem cut_mem {xs : List V} {lo hi : Option Int} {x : V} {i : Nat} (h : (cutV xs lo hi)[i]? = some x) : x ∈ xs := by
  have h1 := List.mem_of_getElem? h
  unfold cutV at h1
  exact List.mem_of_mem_drop (List.mem_of_mem_take h1)
theorem int_of_mem {ns : List Int} {x : V} (h : x ∈ ns.map V.int) : ∃ n, x = .int n := by
  obtain ⟨n, _, e⟩ := List.mem_map.mp h
  exact ⟨n, e.symm⟩
theorem But.seqT {K : PySem.W.Frag} {p l : Addr} {H H' : Hp} (e : But p H H') (hp : PoolAt H p l) {a : Addr} {xs : List V} (h : SqT K H a xs) : SqT K H' a xs := by
  obtain ⟨ns, x, b, c, d, h1, _⟩ := hp
  rcases h with (h | ⟨o, h⟩) | h
  · exact .inl (.inl (e _ _ (ne_of h h1 (by intro z; cases z)) h))
  · exact .inl (.inr ⟨o, e _ _ (ne_of h h1 (by intro z; cases z)) h⟩)
  · exact .inr h
/-! ### plain data, compared kind by kind -/
def Shal : Nat → PyData → Prop
  | 0, .tuple _ => False
  | 0, .list _ => False
  | n + 1, .tuple es => es.length ≤ 1000 ∧ ∀ e ∈ es, Shal n e
  | n + 1, .list es => es.length ≤ 1000 ∧ ∀ e ∈ es, Shal n e
  | _, .dict _ => False
  | _, _ => True
def sp__law_same (K : PySem.W.Frag) : Nat → Sp
  | 0 => fun _ _ _ _ => False
  | n + 1 => fun vs H Q _ => ∃ (x y : V) (d e : PyData), vs = [x, y] ∧ Dp K H x d ∧ Dp K H y e ∧ Shal n e ∧ ∀ (b : Bool) H', Same H H' → (b = true ↔ d = e) → Q (.bl b) H'
abbrev sp__law_same_5 (K : PySem.W.Frag) : Sp := sp__law_same K 5
theorem Same.mut {H H' : Hp} {p : Addr} {o : HO} (e : Same H H') (h : H p = none) : Same H (upd H' p o) := fun a u ha => by
  rw [upd_ne (ne_of_none ha h)]
  exact e a u ha
theorem all_at {α : Type} : ∀ {ds es : List α}, ds.length = es.length → (∀ j, j < es.length → ds[j]? = es[j]?) → ds = es
  | [], [], _, _ => rfl
  | d :: ds, e :: es, hl, h => by
    have h0 : some d = some e := h 0 (Nat.zero_lt_succ _)
    have := all_at (ds := ds) (es := es) (Nat.succ.inj hl) fun j hj => h (j + 1) (Nat.succ_lt_succ hj)
    rw [Option.some.inj h0, this]
mutual
theorem Dp.same {K : PySem.W.Frag} {H H' : Hp} (e : Same H H') : ∀ {d : PyData} {v : V}, Dp K H v d → Dp K H' v d
  | _, _, .non => .non
  | _, _, .bl b => .bl b
  | _, _, .int i => .int i
  | _, _, .str x => .str x
  | _, _, .lst h a => .lst (e.seq h) (DpAll.same e a)
  | _, _, .tup h a => .tup (Same.seqT e h) (DpAll.same e a)
theorem DpAll.same {K : PySem.W.Frag} {H H' : Hp} (e : Same H H') : ∀ {ds : List PyData} {vs : List V}, DpAll K H vs ds → DpAll K H' vs ds
  | _, _, .nil => .nil
  | _, _, .cons h a => .cons (Dp.same e h) (DpAll.same e a)
end
theorem DpAll.len {K : PySem.W.Frag} {H : Hp} : ∀ {ds : List PyData} {vs : List V}, DpAll K H vs ds → vs.length = ds.length
  | _, _, .nil => rfl
  | _, _, .cons _ a => congrArg Nat.succ (DpAll.len a)
theorem DpAll.at {K : PySem.W.Frag} {H : Hp} : ∀ {ds : List PyData} {vs : List V}, DpAll K H vs ds → ∀ {i : Nat}, i < ds.length → ∃ v d, vs[i]? = some v ∧ ds[i]? = some d ∧ Dp K H v d
  | _, _, .cons h a, 0, _ => ⟨_, _, rfl, rfl, h⟩
  | _, _, .cons h a, i + 1, hi => DpAll.at a (i := i) (Nat.lt_of_succ_lt_succ hi)
end Tw
namespace Tw
open PySem PySem.Spec PyProof.Rows L2
theorem paired_at {α β : Type} {F : α → β → Prop} : ∀ {xs : List α} {ys : List β}, Paired F xs ys → ∀ {i : Nat} {x : α}, xs[i]? = some x → ∃ y, ys[i]? = some y ∧ F x y
  | _, _, .cons h t, 0, x, e => ⟨_, rfl, by rw [← Option.some.inj e]; exact h⟩
  | _, _, .cons h t, i + 1, x, e => paired_at t (i := i) e
theorem paired_map {α β : Type} {F G : α → β → Prop} (f : ∀ a b, F a b → G a b) : ∀ {xs : List α} {ys : List β}, Paired F xs ys → Paired G xs ys
  | _, _, .nil => .nil
  | _, _, .cons h t => .cons (f _ _ h) (paired_map f t)
theorem paired_app {α β : Type} {F : α → β → Prop} {x : α} {y : β} (h : F x y) : ∀ {xs : List α} {ys : List β}, Paired F xs ys → Paired F (xs ++ [x]) (ys ++ [y])
  | _, _, .nil => .cons h .nil
  | _, _, .cons g t => .cons g (paired_app h t)
theorem paired_len {α β : Type} {F : α → β → Prop} {xs : List α} {ys : List β} (h : Paired F xs ys) : xs.length = ys.length := Paired.length h
theorem drop_cons {α : Type} {l : List α} {i : Nat} {x : α} (h : l[i]? = some x) : l.drop i = x :: l.drop (i + 1) := by
  obtain ⟨h1, h2⟩ := List.getElem?_eq_some_iff.mp h
  rw [List.drop_eq_getElem_cons h1, h2]
theorem take_snoc {α : Type} {l : List α} {i : Nat} {x : α} (h : l[i]? = some x) : l.take (i + 1) = l.take i ++ [x] := by
  rw [List.take_add_one, h]
  rfl
theorem at3 {v x y z : Int} (h0 : 0 ≤ v) (h1 : v < 3) : ∃ w, atI [V.int x, V.int y, V.int z] v = some (.int w) ∧ (w = x ∨ w = y ∨ w = z) := by
  rcases (by omega : v = 0 ∨ v = 1 ∨ v = 2) with e | e | e
  · exact ⟨x, at_lit 0 e rfl, .inl rfl⟩
  · exact ⟨y, at_lit 1 e rfl, .inr (.inl rfl)⟩
  · exact ⟨z, at_lit 2 e rfl, .inr (.inr rfl)⟩
theorem at2 {v : Int} {x y : V} (h0 : 0 ≤ v) (h1 : v < 2) : ∃ w, atI [x, y] v = some w ∧ (w = x ∨ w = y) := by
  rcases (by omega : v = 0 ∨ v = 1) with e | e
  · exact ⟨x, at_lit 0 e rfl, .inl rfl⟩
  · exact ⟨y, at_lit 1 e rfl, .inr rfl⟩
theorem inV_ints {z : Int} {ns : List Int} : inV (.int z) (ns.map V.int) = decide (z ∈ ns) := by
  unfold inV
  induction ns with
  | nil => rfl
  | cons n ns ih =>
    rw [List.map_cons, List.any_cons, ih]
    show ((n == z) || decide (z ∈ ns)) = decide (z ∈ n :: ns)
    rw [Bool.eq_iff_iff]
    simp only [Bool.or_eq_true, beq_iff_eq, decide_eq_true_eq, List.mem_cons]
    constructor
    · rintro (h | h)
      · exact .inl h.symm
      · exact .inr h
    · rintro (h | h)
      · exact .inl h.symm
      · exact .inr h
theorem flat_ints (ns : List Int) : (ns.map V.int).all flatV = true := by
  induction ns with
  | nil => rfl
  | cons n ns ih =>
    rw [List.map_cons, List.all_cons, ih]
    rfl
section
variable {K : PySem.W.Frag} {H : Hp} {Q : VK}
theorem o_notInI {z : Int} {ns : List Int} {p : Addr} (hs : SqL K H p (ns.map V.int)) (h : Q (.bl (!decide (z ∈ ns))) H) : rIn K true (.int z) (.ref p) H Q := o_inL hs rfl (flat_ints ns) (by
  rw [if_pos rfl, inV_ints]
  exact h)
end
/-! ### spells: pairs of ints in a tuple -/
def PrT (K : PySem.W.Frag) (H : Hp) (v : V) (s : Int × Int) : Prop := ∃ r, v = .ref r ∧ SqT K H r [.int s.1, .int s.2]
def SpsT (K : PySem.W.Frag) (H : Hp) (a : Addr) (sp : List (Int × Int)) : Prop := ∃ vs, SqT K H a vs ∧ Paired (PrT K H) vs sp
theorem PrT.same {K : PySem.W.Frag} {H H' : Hp} (e : Same H H') {v : V} {s : Int × Int} (h : PrT K H v s) : PrT K H' v s := by
  obtain ⟨r, h1, h2⟩ := h
  exact ⟨r, h1, Same.seqT e h2⟩
theorem PrT.but {K : PySem.W.Frag} {H H' : Hp} {p l : Addr} (e : But p H H') (hp : PoolAt H p l) {v : V} {s : Int × Int} (h : PrT K H v s) : PrT K H' v s := by
  obtain ⟨r, h1, h2⟩ := h
  exact ⟨r, h1, e.seqT hp h2⟩
theorem SpsT.same {K : PySem.W.Frag} {H H' : Hp} (e : Same H H') {a : Addr} {sp : List (Int × Int)} (h : SpsT K H a sp) : SpsT K H' a sp := by
  obtain ⟨vs, h1, h2⟩ := h
  exact ⟨vs, Same.seqT e h1, paired_map (fun _ _ => PrT.same e) h2⟩
theorem SpsT.but {K : PySem.W.Frag} {H H' : Hp} {p l : Addr} (e : But p H H') (hp : PoolAt H p l) {a : Addr} {sp : List (Int × Int)} (h : SpsT K H a sp) : SpsT K H' a sp := by
  obtain ⟨vs, h1, h2⟩ := h
  exact ⟨vs, e.seqT hp h1, paired_map (fun _ _ => PrT.but e hp) h2⟩
def ticksOf (sp : List (Int × Int)) : List Int := sp.flatMap fun s => (List.range (s.2 - s.1).toNat).map fun i => s.1 + (i : Nat)
def GoodSp : List (Int × Int) → Int → Prop
  | [], _ => True
  | (b, e) :: r, lo => lo ≤ b ∧ b < e ∧ GoodSp r (e + 1)
theorem GoodSp.snoc {x y : Int} (hxy : x < y) : ∀ {sp : List (Int × Int)} {lo : Int}, GoodSp sp lo → lo ≤ x → (∀ s ∈ sp, s.2 + 1 ≤ x) → GoodSp (sp ++ [(x, y)]) lo
  | [], lo, _, h, _ => ⟨h, hxy, trivial⟩
  | (b, e) :: r, lo, hg, h, ha => ⟨hg.1, hg.2.1, GoodSp.snoc hxy hg.2.2 (ha (b, e) (List.mem_cons_self ..)) fun s hs => ha s (List.mem_cons_of_mem _ hs)⟩
theorem mem_ticks {sp : List (Int × Int)} {t : Int} : t ∈ ticksOf sp ↔ ∃ s ∈ sp, s.1 ≤ t ∧ t < s.2 := by
  unfold ticksOf
  rw [List.mem_flatMap]
  constructor
  · rintro ⟨s, hs, h⟩
    obtain ⟨i, hi, rfl⟩ := List.mem_map.mp h
    rw [List.mem_range] at hi
    exact ⟨s, hs, by omega, by omega⟩
  · rintro ⟨s, hs, h1, h2⟩
    refine ⟨s, hs, List.mem_map.mpr ⟨(t - s.1).toNat, List.mem_range.mpr (by omega), by omega⟩⟩
theorem ticks_len {sp : List (Int × Int)} (h : ∀ s ∈ sp, s.2 - s.1 ≤ 90) : (ticksOf sp).length ≤ 90 * sp.length := by
  induction sp with
  | nil => exact Nat.le_refl _
  | cons s r ih =>
    have h1 := ih fun s hs => h s (List.mem_cons_of_mem _ hs)
    have h2 := h s (List.mem_cons_self ..)
    unfold ticksOf at h1 ⊢
    rw [List.flatMap_cons, List.length_append, List.length_map, List.length_range, List.length_cons]
    omega
theorem GoodSp.lo : ∀ {sp : List (Int × Int)} {lo : Int}, GoodSp sp lo → ∀ s ∈ sp, lo ≤ s.1 ∧ s.1 < s.2
  | (b, e) :: r, lo, hg, s, hs => by
    rcases List.mem_cons.mp hs with rfl | hs
    · exact ⟨hg.1, hg.2.1⟩
    · have h1 := GoodSp.lo hg.2.2 s hs
      have h2 := hg.1
      have h3 := hg.2.1
      exact ⟨by omega, h1.2⟩
theorem SqT.updL {K : PySem.W.Frag} {H : Hp} {a f : Addr} {xs us : List V} {o : HO} (h : SqT K H a xs) (hf : H f = some (.lst us)) : SqT K (upd H f o) a xs := by
  rcases h with (h | ⟨o, h⟩) | h
  · exact .inl (.inl (by rw [upd_ne (ne_of h hf (by intro z; cases z))]; exact h))
  · exact .inl (.inr ⟨o, by rw [upd_ne (ne_of h hf (by intro z; cases z))]; exact h⟩)
  · exact .inr h
theorem PrT.updL {K : PySem.W.Frag} {H : Hp} {f : Addr} {us : List V} {o : HO} {v : V} {s : Int × Int} (h : PrT K H v s) (hf : H f = some (.lst us)) : PrT K (upd H f o) v s := by
  obtain ⟨r, h1, h2⟩ := h
  exact ⟨r, h1, SqT.updL h2 hf⟩
end Tw

namespace Tw
open PySem PySem.Spec PyProof.Rows L2
open Classical in
/-! ### the channel: passages, their spells, their faults -/
def wS (w : Bool) : Str := if w then "in" else "out"
theorem wS_in (w : Bool) : decide (wS w = "in") = w := by
  cases w <;> decide +kernel
theorem wS_out (w : Bool) : decide (wS w = "out") = !w := by
  cases w <;> decide +kernel
theorem wS_eq (w v : Bool) : decide (wS w = wS v) = (w == v) := by
  cases w <;> cases v <;> decide +kernel
def chB (cs : List Int) (e : Int) (w : Bool) (k : Nat) : Int := e + (if w then (cs.take k).sum else (cs.drop (k + 1)).sum)
def sec (cs : List Int) (e : Int) (w : Bool) (k : Nat) : Int × Int := (chB cs e w k, chB cs e w k + cs.getD k 0)
def chSp (cs : List Int) (e : Int) (w : Bool) : List (Int × Int) := (List.range cs.length).map (sec cs e w)
def Meet (cs : List Int) (e1 : Int) (w1 : Bool) (e2 : Int) (w2 : Bool) : Prop := ∃ k, k < cs.length ∧ (sec cs e1 w1 k).1 < (sec cs e2 w2 k).2 ∧ (sec cs e2 w2 k).1 < (sec cs e1 w1 k).2
noncomputable def fault (cs : List Int) (h e1 : Int) (w1 : Bool) (e2 : Int) (w2 : Bool) : Option Bool :=
  if w1 = w2 then (if -h < e1 - e2 ∧ e1 - e2 < h then some false else none) else (@ite _ (Meet cs e1 w1 e2 w2) (Classical.propDecidable _) (some true) none)
theorem fault_same {cs : List Int} {h e1 e2 : Int} {w : Bool} : fault cs h e1 w e2 w = if -h < e1 - e2 ∧ e1 - e2 < h then some false else none := by
  unfold fault
  rw [if_pos rfl]
theorem fault_meet {cs : List Int} {h e1 e2 : Int} {w1 w2 : Bool} (hw : w1 ≠ w2) (hm : Meet cs e1 w1 e2 w2) : fault cs h e1 w1 e2 w2 = some true := by
  unfold fault
  rw [if_neg hw, if_pos hm]
theorem fault_clear {cs : List Int} {h e1 e2 : Int} {w1 w2 : Bool} (hw : w1 ≠ w2) (hm : ¬ Meet cs e1 w1 e2 w2) : fault cs h e1 w1 e2 w2 = none := by
  unfold fault
  rw [if_neg hw, if_neg hm]
def faultV : Option Bool → V
  | none => .non
  | some true => .str "meeting"
  | some false => .str "close"
def faultL : Option Bool → V
  | none => .str ""
  | some true => .str "meeting"
  | some false => .str "close"
theorem chSp_at {cs : List Int} {e : Int} {w : Bool} {k : Nat} (hk : k < cs.length) : (chSp cs e w)[k]? = some (sec cs e w k) := by
  unfold chSp
  rw [List.getElem?_map, List.getElem?_range hk]
  rfl
theorem chSp_len {cs : List Int} {e : Int} {w : Bool} : (chSp cs e w).length = cs.length := by
  unfold chSp
  rw [List.length_map, List.length_range]
theorem getD_at {cs : List Int} {k : Nat} (hk : k < cs.length) : (cs.map V.int)[k]? = some (.int (cs.getD k 0)) := by
  rw [List.getElem?_map, List.getElem?_eq_getElem hk, List.getD_eq_getElem?_getD, List.getElem?_eq_getElem hk]
  rfl
theorem cut_take {cs : List Int} {k : Nat} (hk : k ≤ cs.length) : cutV (cs.map V.int) none (some (k : Int)) = (cs.take k).map V.int := by
  unfold cutV
  rw [HT.sIx_none, HT.sIx_nat, List.drop_zero, Nat.sub_zero, List.length_map, Nat.min_eq_left hk, List.map_take]
theorem cut_drop {cs : List Int} {k : Nat} (hk : k ≤ cs.length) : cutV (cs.map V.int) (some (k : Int)) none = (cs.drop k).map V.int := by
  unfold cutV
  rw [HT.sIx_none, HT.sIx_nat, List.length_map, Nat.min_eq_left hk, List.map_drop, List.take_of_length_le]
  rw [List.length_drop, List.length_map]
  exact Nat.le_refl _
/-- a passage stands at r; passages in a list -/
def PsT (K : PySem.W.Frag) (H : Hp) (v : V) (s : Int × Bool) : Prop := ∃ r, v = .ref r ∧ SqT K H r [.int s.1, .str (wS s.2)]
theorem PsT.same {K : PySem.W.Frag} {H H' : Hp} (e : Same H H') {v : V} {s : Int × Bool} (h : PsT K H v s) : PsT K H' v s := by
  obtain ⟨r, h1, h2⟩ := h
  exact ⟨r, h1, Same.seqT e h2⟩
theorem PsT.but {K : PySem.W.Frag} {H H' : Hp} {p l : Addr} (e : But p H H') (hp : PoolAt H p l) {v : V} {s : Int × Bool} (h : PsT K H v s) : PsT K H' v s := by
  obtain ⟨r, h1, h2⟩ := h
  exact ⟨r, h1, e.seqT hp h2⟩
def sp_channel_spells (K : PySem.W.Frag) : Sp := fun vs H Q _ => ∃ (c p : Addr) (cs : List Int) (e : Int) (w : Bool), vs = [.ref c, .ref p] ∧ SqT K H c (cs.map V.int) ∧ cs.length ≤ 100 ∧ SqT K H p [.int e, .str (wS w)] ∧
  ∀ t us H', Same H H' → H t = none → H' t = some (.lst us) → Paired (PrT K H') us (chSp cs e w) → Q (.ref t) H'
def sp_is_meeting (K : PySem.W.Frag) : Sp := fun vs H Q _ => ∃ (c p q : Addr) (cs : List Int) (e1 e2 : Int) (w1 w2 : Bool), vs = [.ref c, .ref p, .ref q] ∧ SqT K H c (cs.map V.int) ∧ cs.length ≤ 100 ∧ SqT K H p [.int e1, .str (wS w1)] ∧ SqT K H q [.int e2, .str (wS w2)] ∧
  ∀ b H', Same H H' → (b = true ↔ Meet cs e1 w1 e2 w2) → Q (.bl b) H'
def sp_fault_of (K : PySem.W.Frag) : Sp := fun vs H Q _ => ∃ (c p q : Addr) (cs : List Int) (h e1 e2 : Int) (w1 w2 : Bool), vs = [.ref c, .int h, .ref p, .ref q] ∧ SqT K H c (cs.map V.int) ∧ cs.length ≤ 100 ∧ SqT K H p [.int e1, .str (wS w1)] ∧ SqT K H q [.int e2, .str (wS w2)] ∧
  ∀ H', Same H H' → Q (faultV (fault cs h e1 w1 e2 w2)) H'
def sp__law_channel (K : PySem.W.Frag) : Sp := fun vs H Q _ => ∃ (p l : Addr), vs = [.ref p] ∧ PoolAt H p l ∧ ∀ (c : Addr) (cs : List Int) H', But p H H' → PoolAt H' p l → SqT K H' c (cs.map V.int) → 1 ≤ cs.length → cs.length ≤ 6 → (∀ x ∈ cs, 1 ≤ x ∧ x ≤ 20) → Q (.ref c) H'
def sp__law_passages (K : PySem.W.Frag) : Sp := fun vs H Q _ => ∃ (p l : Addr) (most : Int), vs = [.ref p, .int most] ∧ 0 ≤ most ∧ most ≤ 20 ∧ PoolAt H p l ∧ ∀ (a : Addr) (us : List V) (ps : List (Int × Bool)) H', But p H H' → PoolAt H' p l → H a = none → H' a = some (.lst us) → Paired (PsT K H') us ps → (ps.length : Int) ≤ most → (∀ s ∈ ps, 0 ≤ s.1 ∧ s.1 < 200) → Q (.ref a) H'
def sp__law_in_section (K : PySem.W.Frag) : Sp := fun vs H Q _ => ∃ (c p : Addr) (cs : List Int) (e : Int) (w : Bool) (k : Nat), vs = [.ref c, .ref p, .int (k : Nat)] ∧ SqT K H c (cs.map V.int) ∧ cs.length ≤ 100 ∧ SqT K H p [.int e, .str (wS w)] ∧ k < cs.length ∧
  ∀ t H', Same H H' → H t = none → H' t = some (.tup [.int (sec cs e w k).1, .int (sec cs e w k).2]) → Q (.ref t) H'
def sp__law_passage_fault (K : PySem.W.Frag) : Sp := fun vs H Q _ => ∃ (c p q : Addr) (cs : List Int) (h e1 e2 : Int) (w1 w2 : Bool), vs = [.ref c, .int h, .ref p, .ref q] ∧ SqT K H c (cs.map V.int) ∧ cs.length ≤ 100 ∧ (∀ x ∈ cs, 1 ≤ x) ∧ SqT K H p [.int e1, .str (wS w1)] ∧ SqT K H q [.int e2, .str (wS w2)] ∧
  ∀ H', Same H H' → Q (faultL (fault cs h e1 w1 e2 w2)) H'
/-! ### comprehensions over zip -/
def kLcZ (K : PySem.W.Frag) (g : TG) (tt : TT) (te : TE) (ws : List Nat) (σ : L2.St) (Q : VK) : List V → Hp → Prop := fun vs H1 => ∃ a b xs ys, vs = [.ref a, .ref b] ∧ SqL K H1 a xs ∧ SqL K H1 b ys ∧ CompW (Itz K a b) g tt te ws σ Q H1
section
variable {K : PySem.W.Frag} {σ : L2.St} {H : Hp} {Q : VK} {te : TE} {t : TT} {ts : TA} {g : TG} {xs ys : List V}
theorem w_lcZ {ws : List Nat} (h : ts σ H (kLcZ K g t te ws σ Q)) : tLc (iZip K ts) g t te ws σ H Q := h
theorem k_lcZ {a b : Addr} {ws : List Nat} (hq : SqL K H a xs) (hr : SqL K H b ys) (hl : xs.length = ys.length) (h : ∀ dd, H dd = none → ∃ Pv : Nat → Hp → Prop, Pv 0 (upd H dd (.lst [])) ∧ (∀ i H, Pv i H → SqL K H a xs ∧ SqL K H b ys) ∧
    (∀ i x y T H, xs[i]? = some x → ys[i]? = some y → Pv i H → H T = none → g (.ref T) (wipe σ ws) (upd H T (.tup [x, y])) (kTurn t te dd ws σ (Pv (i + 1)))) ∧ ∀ H, Pv xs.length H → Q (.ref dd) H) : kLcZ K g t te ws σ Q [.ref a, .ref b] H := by
  refine ⟨a, b, xs, ys, rfl, hq, hr, fun dd hd => ?_⟩
  obtain ⟨Pv, h0, hql, hs, he⟩ := h dd hd
  refine ⟨fun i m H => m = xs.length - i ∧ i ≤ xs.length ∧ Pv i H, ⟨xs.length, rfl, Nat.zero_le _, h0⟩, ?_⟩
  rintro i m H ⟨rfl, hi, p⟩
  obtain ⟨qx, qy⟩ := hql i H p
  by_cases hlt : i < xs.length
  · have hx : xs[i]? = some xs[i] := List.getElem?_eq_getElem hlt
    have hlt2 : i < ys.length := by omega
    have hy : ys[i]? = some ys[i] := List.getElem?_eq_getElem hlt2
    refine .inr ⟨⟨xs, ys, _, _, qx, qy, hx, hy⟩, Pv (i + 1), fun H' p' => ⟨xs.length - (i + 1), by omega, rfl, hlt, p'⟩, fun v H' y => ?_⟩
    obtain ⟨T, x', y', rfl, hT, rfl, f1, f2⟩ := y
    exact hs i x' y' T H (f1 xs qx) (f2 ys qy) p hT
  · have e : i = xs.length := by omega
    subst e
    exact .inl ⟨⟨xs, ys, qx, qy, .inl (Nat.le_refl _)⟩, he H p⟩
theorem o_any {p : Addr} {bs : List Bool} (hs : SqL K H p (bs.map V.bl)) (h : Q (.bl (bs.any id)) H) : rAny K [.ref p] H Q := ⟨p, bs, rfl, hs, h⟩
end
/-! ### as plain data -/
theorem dp_list {K : PySem.W.Frag} {H : Hp} {β : Type} {F : V → β → Prop} {g : β → PyData} (hF : ∀ v b, F v b → Dp K H v (g b)) : ∀ {us : List V} {bs : List β}, Paired F us bs → DpAll K H us (bs.map g)
  | _, _, .nil => .nil
  | _, _, .cons h t => .cons (hF _ _ h) (dp_list hF t)
def prD (s : Int × Int) : PyData := .tuple [.int s.1, .int s.2]
def psD (s : Int × Bool) : PyData := .tuple [.int s.1, .str (wS s.2)]
theorem PrT.dp {K : PySem.W.Frag} {H : Hp} {v : V} {s : Int × Int} (h : PrT K H v s) : Dp K H v (prD s) := by
  obtain ⟨r, rfl, h⟩ := h
  exact .tup h (.cons (.int _) (.cons (.int _) .nil))
theorem PsT.dp {K : PySem.W.Frag} {H : Hp} {v : V} {s : Int × Bool} (h : PsT K H v s) : Dp K H v (psD s) := by
  obtain ⟨r, rfl, h⟩ := h
  exact .tup h (.cons (.int _) (.cons (.str _) .nil))
theorem psD_ok : ∀ ps : List (Int × Bool), PyData.canLayAll0 (ps.map psD) = true ∧ PyData.depthAll (ps.map psD) ≤ 1
  | [] => ⟨rfl, Nat.zero_le _⟩
  | (e, w) :: r => by
    obtain ⟨h1, h2⟩ := psD_ok r
    constructor
    · show (PyData.canLay0 (psD (e, w)) && PyData.canLayAll0 (r.map psD)) = true
      have h3 : PyData.canLay0 (.str (wS w)) = true := by cases w <;> decide +kernel
      rw [h1, Bool.and_true]
      show (true && (PyData.canLay0 (.str (wS w)) && true)) = true
      rw [h3]
      rfl
    · show max (PyData.depth (psD (e, w))) (PyData.depthAll (r.map psD)) ≤ 1
      exact Nat.max_le.mpr ⟨Nat.le_refl 1, h2⟩
theorem psD_shaped (ps : List (Int × Bool)) : SeqAt.shaped (.list (ps.map psD)) = true := by
  unfold SeqAt.shaped
  rw [Bool.and_eq_true, decide_eq_true_iff]
  exact ⟨(psD_ok ps).1, Nat.le_trans (Nat.succ_le_succ (psD_ok ps).2) (by decide)⟩
theorem o_eqData {K : PySem.W.Frag} {H : Hp} {Q : VK} {x y : V} {d : PyData} (hx : Dp K H x d) (hy : Dp K H y d) (hs : SeqAt.shaped d = true) (h : Q (.bl true) H) : rEqG K x y H Q := .inr ⟨d, d, hx, hy, hs, hs, by
  rw [SeqAt.eqv_refl d (SeqAt.canLay_of_shaped hs)]
  exact h⟩
theorem o_neData {K : PySem.W.Frag} {H : Hp} {Q : VK} {x y : V} {d : PyData} (hx : Dp K H x d) (hy : Dp K H y d) (hs : SeqAt.shaped d = true) (h : Q (.bl false) H) : rNeG K x y H Q := .inr ⟨d, d, hx, hy, hs, hs, by
  rw [SeqAt.eqv_refl d (SeqAt.canLay_of_shaped hs)]
  exact h⟩
end Tw

namespace Tw
open PySem PySem.Spec PyProof.Rows L2
local macro_rules | `(tactic| walk_at "sqL") => `(tactic| first | assumption | exact SqL.of (by assumption) | exact L2.Same.seq (by assumption) (by first | assumption | exact SqL.of (by assumption)))
local macro_rules | `(tactic| walk_at "sqT") => `(tactic| first | assumption | exact SqT.of (by assumption) | exact Tw.Same.seqT (by assumption) (by first | assumption | exact SqT.of (by assumption)))
local macro_rules | `(tactic| walk_at "at") => `(tactic| first | assumption | exact at_lit 0 rfl rfl | exact at_lit 1 rfl rfl | exact at_lit 2 rfl rfl | exact at_lit 3 rfl rfl | exact at_lit 4 rfl rfl | exact atI_nat (by assumption) | exact at_m1 rfl)
local macro_rules | `(tactic| walk_at "ty") => `(tactic| first | exact .base .non | exact .base (.int _) | exact .base (.bl _) | exact .base (.str _) | exact ty_T (by walk_at "sqT") | exact ty_L (by walk_at "sqL"))
local macro_rules | `(tactic| walk_at "S1") => `(tactic| (with_reducible first
  | refine w_var rfl ?_ | refine w_c ?_ | refine w_op ?_ | refine w_op1 ?_ | refine w_op2 ?_ | refine w_un ?_ | refine w_un1 ?_ | refine w_cb ?_ | refine w_cb1 ?_ | refine w_nil ?_ | refine w_cons ?_ | refine w_cons1 ?_ | refine w_cons2 ?_
  | refine w_tup ?_ | refine w_lst ?_ | refine w_call ?_ | refine w_callN ?_ | refine w_callN1 ?_ | refine w_if ?_ | refine w_andV ?_ | refine w_orV ?_ | refine w_notV ?_ | refine k_notV ?_ | refine w_isN ?_ | refine w_notN ?_
  | refine k_isNn ?_ | refine k_isNi ?_ | refine k_isNr ?_ | refine k_isNs ?_ | refine k_isNb ?_ | refine k_notNn ?_ | refine k_notNi ?_ | refine k_notNr ?_ | refine k_notNs ?_
  | refine w_sl ?_ | refine w_sl1 ?_ | refine w_sl2 ?_ | refine w_sl3 ?_ | refine w_part ?_ | refine k_part ?_ | refine w_nopart ?_ | refine w_bm ?_ | refine w_bm2 ?_ | refine w_test ?_ | refine w_tB ?_ | refine k_test ?_ | refine w_and ?_ | refine w_or ?_ | refine w_not ?_ | refine k_notT ?_ | refine k_notF ?_ | refine k_not ?_
  | refine k_ifT ?_ | refine k_ifF ?_ | refine k_andVT ?_ | refine k_andVF ?_ | refine k_orVT ?_ | refine k_orVF ?_ | refine k_andT ?_ | refine k_andF ?_ | refine k_orT ?_ | refine k_orF ?_ | refine k_ifST ?_ | refine k_ifSF ?_ | refine k_tstT ?_ | refine k_tstF ?_
  | refine w_seq ?_ | refine w_asg ?_ | refine k_name ?_ | refine k_asg ?_ | refine g_name ?_ | refine g_cons ?_ | refine k_gs ?_ | refine g_nil ?_ | refine g_sub ?_ | refine k_sub1 ?_ | refine w_drop ?_ | refine k_drop ?_ | refine w_ret ?_ | refine w_retN ?_ | refine w_next ?_ | refine w_aug rfl ?_ | refine k_aug ?_
  | refine w_chain ?_ | refine w_chain1 ?_ | refine w_chain2 ?_ | refine w_lrg1 ?_ | refine w_lrg2 ?_ | refine k_rg1 ?_ | refine k_rg2 ?_ | refine k_rg3 ?_
  | refine o_addI ?_ | refine o_mod (by first | assumption | omega | decide) ?_ | refine o_div (by first | assumption | omega | decide) (by first | assumption | omega | decide) ?_ | refine o_I0 ?_ | refine o_lt ?_ | refine o_eqI ?_ | refine o_eqB ?_ | refine o_eqS ?_ | refine o_neI ?_ | refine o_neS ?_ | refine o_neg ?_
  | refine o_mulR (by first | decide | omega) ?_ | refine o_mulL (by first | decide | omega) ?_
  | refine o_eqNS ?_ | refine o_abs ?_ | refine o_int1 ?_ | refine o_max2 ?_ | refine o_min2 ?_ | refine o_neTT ?_ | refine o_neFF ?_ | refine o_neTF ?_ | refine o_neFT ?_ | refine o_neB ?_
  | refine w_forR1 ?_ | refine w_forR2 ?_ | refine w_lcR1 ?_ | refine w_lcR2 ?_ | refine k_yes ?_))
local macro_rules | `(tactic| walk_at "S2") => `(tactic| first
  | (with_reducible refine' o_ixL ?a ?b ?_; (case a => walk_at "sqL"); (case b => walk_at "at"))
  | (with_reducible refine' o_ixT ?a ?b ?_; (case a => walk_at "sqT"); (case b => walk_at "at"))
  | (with_reducible refine' o_lenL ?a ?_; (case a => walk_at "sqL"))
  | (with_reducible refine' o_lenT ?a ?_; (case a => walk_at "sqT"))
  | (with_reducible refine' o_isiF ?a ?b ?_; (case a => walk_at "ty"); (case b => decide +kernel))
  | (with_reducible refine' o_isiT ?a ?b ?_; (case a => walk_at "ty"); (case b => decide +kernel))
  | (with_reducible refine' k_call ?_)
  | (refine k_turn rfl ?_)
  | (refine k_callN rfl rfl ?_) | (refine k_callD ?_))
local macro_rules | `(tactic| walk_at "S") => `(tactic| first | walk_at "S1" | walk_at "S2" | (dsimp only; first | walk_at "S1" | walk_at "S2"))
local macro_rules | `(tactic| walk_at "R") => `(tactic| ((repeat (walk_at "S")); (try dsimp only [List.set_cons_zero, List.set_cons_succ]); (try dsimp only)))
local macro_rules | `(tactic| walk_at "RR") => `(tactic| ((repeat (first | walk_at "S" | (with_reducible refine w_ifS ?_))); (try dsimp only [List.set_cons_zero, List.set_cons_succ]); (try dsimp only)))

def topS (i : Nat) : Stmt := PySem.Challenge.pw_tidewarden_k11_next_passages.main.body.getD i (.Pass ⟨0, 0, 0, 0⟩)
abbrev s__law_same : Stmt := topS 8
abbrev s__law_pool : Stmt := topS 9
abbrev s__law_spread : Stmt := topS 10
abbrev s__law_draw : Stmt := topS 11
abbrev s_channel_spells : Stmt := topS 2
abbrev s_is_meeting : Stmt := topS 3
abbrev s_fault_of : Stmt := topS 4
abbrev s__law_channel : Stmt := topS 12
abbrev s__law_passages : Stmt := topS 14
abbrev s__law_in_section : Stmt := topS 13
abbrev s__law_passage_fault : Stmt := topS 15
abbrev s_next_try : Stmt := topS 5
abbrev s_next_passage : Stmt := topS 6
abbrev s_law : Stmt := topS 16
structure Txt (K : PySem.W.Frag) (mg : Str → Option Value) : Prop where
  z_len : mg "len" = none
  z_isinstance : mg "isinstance" = none
  z_list : mg "list" = none
  z_tuple : mg "tuple" = none
  z_range : mg "range" = none
  z_bool : mg "bool" = none
  z_int : mg "int" = none
  z_str : mg "str" = none
  z_sum : mg "sum" = none
  z_any : mg "any" = none
  z_zip : mg "zip" = none
  z_abs : mg "abs" = none
  z_max : mg "max" = none
  z_min : mg "min" = none
  c_INWARDS : ∃ u, mg "INWARDS" = some u ∧ RelV (.str "in") u
def Bad (cs : List Int) (h : Int) (ps : List (Int × Bool)) (w : Bool) (t : Int) : Prop := ∃ s ∈ ps, fault cs h t w s.1 s.2 ≠ none
theorem meet_symm {cs : List Int} {e1 e2 : Int} {w1 w2 : Bool} (h : Meet cs e1 w1 e2 w2) : Meet cs e2 w2 e1 w1 := by
  obtain ⟨k, h1, h2, h3⟩ := h
  exact ⟨k, h1, h3, h2⟩
theorem fault_symm {cs : List Int} {h e1 e2 : Int} {w1 w2 : Bool} : fault cs h e1 w1 e2 w2 = fault cs h e2 w2 e1 w1 := by
  by_cases hw : w1 = w2
  · subst hw
    rw [fault_same, fault_same]
    by_cases hc : -h < e1 - e2 ∧ e1 - e2 < h
    · rw [if_pos hc, if_pos (by omega)]
    · rw [if_neg hc, if_neg (by omega)]
  · by_cases hm : Meet cs e1 w1 e2 w2
    · rw [fault_meet hw hm, fault_meet (Ne.symm hw) (meet_symm hm)]
    · rw [fault_clear hw hm, fault_clear (Ne.symm hw) (fun z => hm (meet_symm z))]
theorem sum_nn : ∀ {cs : List Int}, (∀ x ∈ cs, 0 ≤ x) → 0 ≤ cs.sum
  | [], _ => Int.le_refl 0
  | c :: cs, h => by
    have h1 := h c (List.mem_cons_self ..)
    have h2 := sum_nn (cs := cs) fun x hx => h x (List.mem_cons_of_mem _ hx)
    rw [List.sum_cons]
    omega
theorem sum_le : ∀ {cs : List Int} {m : Int}, (∀ x ∈ cs, x ≤ m) → cs.sum ≤ m * cs.length
  | [], m, _ => by simp
  | c :: cs, m, h => by
    have h1 := h c (List.mem_cons_self ..)
    have h2 := sum_le (cs := cs) fun x hx => h x (List.mem_cons_of_mem _ hx)
    rw [List.sum_cons, List.length_cons, Int.natCast_add, Int.mul_add]
    omega
theorem chB_le {cs : List Int} {e : Int} {w : Bool} {k : Nat} (h0 : ∀ x ∈ cs, 0 ≤ x ∧ x ≤ 20) (hl : cs.length ≤ 6) : e ≤ chB cs e w k ∧ chB cs e w k ≤ e + 120 := by
  have key : ∀ l : List Int, (∀ x ∈ l, x ∈ cs) → l.length ≤ 6 → 0 ≤ l.sum ∧ l.sum ≤ 120 := fun l hx hll => by
    have a := sum_nn (cs := l) fun x h => (h0 x (hx x h)).1
    have b := sum_le (cs := l) (m := 20) fun x h => (h0 x (hx x h)).2
    omega
  unfold chB
  cases w with
  | true =>
    have := key (cs.take k) (fun x h => List.mem_of_mem_take h) (by rw [List.length_take]; omega)
    simp only [if_true]
    omega
  | false =>
    have := key (cs.drop (k + 1)) (fun x h => List.mem_of_mem_drop h) (by rw [List.length_drop]; omega)
    simp only [Bool.false_eq_true, if_false]
    omega
theorem not_bad {cs : List Int} {h : Int} {ps : List (Int × Bool)} {w : Bool} {t : Int} (h0 : ∀ x ∈ cs, 1 ≤ x ∧ x ≤ 20) (hl : cs.length ≤ 6) (hh : h ≤ 100) (hp : ∀ s ∈ ps, 0 ≤ s.1 ∧ s.1 < 200) (ht : 1000 ≤ t) : ¬ Bad cs h ps w t := by
  rintro ⟨s, hs, hf⟩
  have hb := hp s hs
  apply hf
  by_cases hw : w = s.2
  · subst hw
    rw [fault_same, if_neg (by omega)]
  · refine fault_clear hw ?_
    rintro ⟨k, hk, h1, _⟩
    have c0 : ∀ x ∈ cs, 0 ≤ x ∧ x ≤ 20 := fun x hx => ⟨by have := (h0 x hx).1; omega, (h0 x hx).2⟩
    have a := (chB_le (e := t) (w := w) (k := k) c0 hl).1
    have b := (chB_le (e := s.1) (w := s.2) (k := k) c0 hl).2
    have c : cs.getD k 0 ≤ 20 := by
      rw [List.getD_eq_getElem?_getD, List.getElem?_eq_getElem hk]
      exact (h0 _ (List.getElem_mem hk)).2
    have h1' : chB cs t w k < chB cs s.1 s.2 k + cs.getD k 0 := h1
    omega
def sp_next_try (K : PySem.W.Frag) : Sp := fun vs H Q _ => ∃ (c a p : Addr) (cs : List Int) (h e : Int) (w : Bool) (us : List V) (ps : List (Int × Bool)), vs = [.ref c, .int h, .ref a, .ref p] ∧ SqT K H c (cs.map V.int) ∧ cs.length ≤ 100 ∧ SqL K H a us ∧ Paired (PsT K H) us ps ∧ SqT K H p [.int e, .str (wS w)] ∧
  ∀ r H', Same H H' → e ≤ r → (r = e → ¬ Bad cs h ps w e) → (∀ t, e ≤ t → t < r → Bad cs h ps w t) → Q (.int r) H'
def sp_next_passage (K : PySem.W.Frag) : Sp := fun vs H Q _ => ∃ (c a : Addr) (cs : List Int) (h s B : Int) (w : Bool) (us : List V) (ps : List (Int × Bool)), vs = [.ref c, .int h, .ref a, .str (wS w), .int s] ∧ SqT K H c (cs.map V.int) ∧ cs.length ≤ 100 ∧ SqL K H a us ∧ Paired (PsT K H) us ps ∧ (∀ t, B ≤ t → ¬ Bad cs h ps w t) ∧
  ∀ r H', Same H H' → s ≤ r → ¬ Bad cs h ps w r → (∀ t, s ≤ t → t < r → Bad cs h ps w t) → Q (.int r) H'
def sp_law (K : PySem.W.Frag) : Sp := fun vs H Q _ => ∃ (a : Addr) (ns : List Int), vs = [.ref a] ∧ SqL K H a (ns.map V.int) ∧ ns.length ≤ 63 ∧ ∀ H', Q (.bl true) H'

section
variable {P : Program} {w : World} {K : PySem.W.Frag} {mg : Str → Option Value} {base : Heap}
theorem sc__law_same : FnScope ["actual", "due", "k"] ["actual", "due"] (defScope s__law_same) := ⟨rfl, rfl, rfl, by decide +kernel, rfl, by decide +kernel, by decide +kernel⟩
theorem ok__law_same_step (n : Nat) {f : Addr} {fd : FuncData} (F : Fun K "_law_same" "_law_same" s__law_same f fd) (T : Txt K mg) (C__law_same : Cal P w K mg base "_law_same" f fd ["actual", "due"] (sp__law_same K n) (n + 1)) : FnOk P w K mg base CX0 (n + 1 + 1) f fd ["actual", "due"] (sp__law_same K (n + 1)) := by
  refine F.ok sc__law_same (fun vs H Q E h => ?_) (fun cdv A outer s H vs Q E hr h => ?_)
  · obtain ⟨x, y, d, e, rfl, hd, he, hs, q⟩ := h
    rfl
  · obtain ⟨x, y, d, e, rfl, hd, he, hs, q⟩ := h
    refine ⟨_, (pss_cons (ps_if ((pw_or (pt_val (pe_callB (callIsiK (K := K) rfl) (by rfl) T.z_isinstance (by decide +kernel) (pa_cons (pv 1) (pa_cons (pe_bltn (v := .ty "tuple") (by rfl) T.z_tuple (by decide +kernel) rfl) pa_nil)))) (pw_or1 (pt_val (pe_callB (callIsiK (K := K) rfl) (by rfl) T.z_isinstance (by decide +kernel) (pa_cons (pv 1) (pa_cons (pe_bltn (v := .ty "list") (by rfl) T.z_list (by decide +kernel) rfl) pa_nil))))))).pt (pss_cons (ps_if ((pw_or (pt_cmpR (opNeK (K := K) rfl hr.units) (pe_callB (callIsiK (K := K) rfl) (by rfl) T.z_isinstance (by decide +kernel) (pa_cons (pv 1) (pa_cons (pe_bltn (v := .ty "tuple") (by rfl) T.z_tuple (by decide +kernel) rfl) pa_nil))) (pe_callB (callIsiK (K := K) rfl) (by rfl) T.z_isinstance (by decide +kernel) (pa_cons (pv 0) (pa_cons (pe_bltn (v := .ty "tuple") (by rfl) T.z_tuple (by decide +kernel) rfl) pa_nil))) (nomark _)) (pw_or (pt_cmpR (opNeK (K := K) rfl hr.units) (pe_callB (callIsiK (K := K) rfl) (by rfl) T.z_isinstance (by decide +kernel) (pa_cons (pv 1) (pa_cons (pe_bltn (v := .ty "list") (by rfl) T.z_list (by decide +kernel) rfl) pa_nil))) (pe_callB (callIsiK (K := K) rfl) (by rfl) T.z_isinstance (by decide +kernel) (pa_cons (pv 0) (pa_cons (pe_bltn (v := .ty "list") (by rfl) T.z_list (by decide +kernel) rfl) pa_nil))) (nomark _)) (pw_or1 (pt_cmpR (opNeK (K := K) rfl hr.units) (pe_callB (callLenK (K := K) rfl) (by rfl) T.z_len (by decide +kernel) (pa_cons (pv 0) pa_nil)) (pe_callB (callLenK (K := K) rfl) (by rfl) T.z_len (by decide +kernel) (pa_cons (pv 1) pa_nil)) (nomark _)))))).pt (pss_one (ps_ret pe_bl)) pss_nil)
      (pss_one (ps_ret (pe_cmpR (opEqK (K := K) rfl hr.units) (pe_callB (callLenK (K := K) rfl) (by rfl) T.z_len (by decide +kernel) (pa_cons (pe_lc (own := [("k", 2)]) (by rfl) sc__law_same.nd (pi_range1 (by rfl) T.z_range (pa_cons (pe_callB (callLenK (K := K) rfl) (by rfl) T.z_len (by decide +kernel) (pa_cons (pv 1) pa_nil)) pa_nil)) (blkOk_by (own := [("k", 2)]) (N := ["actual", "due", "k"]) (sc := defScope s__law_same) (by decide +kernel)) (fun _ _ _ _ _ => (pg_name (i := 2) sc__law_same.nd rfl (by first | exact Or.inl rfl | exact Or.inr rfl))) (fun _ _ _ _ _ => (pts_one (pt_not (pt_val (pe_call C__law_same.G (hr.mono (by first | decide | omega)) (by rfl) C__law_same.m C__law_same.kp C__law_same.b .nil pass0 (pa_cons (pe_ix (ixSeqK (K := K) rfl) (pv 0) (pv 2) (fun _ _ => rfl)) (pa_cons (pe_ix (ixSeqK (K := K) rfl) (pv 1) (pv 2) (fun _ _ => rfl)) pa_nil))))))) (fun _ _ _ _ _ => (pv 2))) pa_nil)) pe_int (nomark _))))) pss_nil)
      (pss_cons (ps_if (pt_cmp (pc_isN (pv 1))) (pss_one (ps_ret (pe_cmp (pc_isN (pv 0))))) pss_nil)
      (pss_cons (ps_if ((pw_or (pt_val (pe_callB (callIsiK (K := K) rfl) (by rfl) T.z_isinstance (by decide +kernel) (pa_cons (pv 1) (pa_cons (pe_bltn (v := .ty "bool") (by rfl) T.z_bool (by decide +kernel) rfl) pa_nil)))) (pw_or1 (pt_val (pe_callB (callIsiK (K := K) rfl) (by rfl) T.z_isinstance (by decide +kernel) (pa_cons (pv 0) (pa_cons (pe_bltn (v := .ty "bool") (by rfl) T.z_bool (by decide +kernel) rfl) pa_nil))))))).pt (pss_one (ps_ret (pe_and (pe_callB (callIsiK (K := K) rfl) (by rfl) T.z_isinstance (by decide +kernel) (pa_cons (pv 1) (pa_cons (pe_bltn (v := .ty "bool") (by rfl) T.z_bool (by decide +kernel) rfl) pa_nil))) (pe_and (pe_callB (callIsiK (K := K) rfl) (by rfl) T.z_isinstance (by decide +kernel) (pa_cons (pv 0) (pa_cons (pe_bltn (v := .ty "bool") (by rfl) T.z_bool (by decide +kernel) rfl) pa_nil))) (pe_one (pe_cmpR (opEqK (K := K) rfl hr.units) (pv 0) (pv 1) (nomark _))))))) pss_nil)
      (pss_cons (ps_if (pt_val (pe_callB (callIsiK (K := K) rfl) (by rfl) T.z_isinstance (by decide +kernel) (pa_cons (pv 1) (pa_cons (pe_bltn (v := .ty "int") (by rfl) T.z_int (by decide +kernel) rfl) pa_nil)))) (pss_one (ps_ret (pe_and (pe_callB (callIsiK (K := K) rfl) (by rfl) T.z_isinstance (by decide +kernel) (pa_cons (pv 0) (pa_cons (pe_bltn (v := .ty "int") (by rfl) T.z_int (by decide +kernel) rfl) pa_nil))) (pe_one (pe_cmpR (opEqK (K := K) rfl hr.units) (pv 0) (pv 1) (nomark _)))))) pss_nil)
      (pss_one (ps_ret (pe_and (pe_callB (callIsiK (K := K) rfl) (by rfl) T.z_isinstance (by decide +kernel) (pa_cons (pv 0) (pa_cons (pe_bltn (v := .ty "str") (by rfl) T.z_str (by decide +kernel) rfl) pa_nil))) (pe_and (pe_callB (callIsiK (K := K) rfl) (by rfl) T.z_isinstance (by decide +kernel) (pa_cons (pv 1) (pa_cons (pe_bltn (v := .ty "str") (by rfl) T.z_str (by decide +kernel) rfl) pa_nil))) (pe_one (pe_cmpR (opEqK (K := K) rfl hr.units) (pv 0) (pv 1) (nomark _))))))))))), ?_⟩
    cases he with
    | non => cases hd <;> (walk_at "RR"; exact q _ _ (Same.refl H) (by simp))
    | bl b => cases hd <;> (walk_at "RR"; exact q _ _ (Same.refl H) (by simp))
    | int b => cases hd <;> (walk_at "RR"; exact q _ _ (Same.refl H) (by simp))
    | str b => cases hd <;> (walk_at "RR"; exact q _ _ (Same.refl H) (by simp))
    | lst hl ha =>
      rename_i ad xs ds
      cases hd with
      | lst hl2 ha2 =>
        rename_i ad2 xs2 ds2
        have l1 := DpAll.len ha
        have l2 := DpAll.len ha2
        walk_at "RR"
        refine k_ifS (fun hb => ?_) (fun hb => ?_)
        · walk_at "RR"
          have hb0 : ¬ ((xs2.length : Nat) : Int) = ((xs.length : Nat) : Int) := by simpa only [Bool.not_eq_true', decide_eq_false_iff_not] using hb
          have hb' : ¬ xs2.length = xs.length := by omega
          refine q _ _ (Same.refl H) ⟨fun z => absurd z Bool.false_ne_true, fun z => ?_⟩
          injection z with z
          subst z
          omega
        · have hb0 : ((xs2.length : Nat) : Int) = ((xs.length : Nat) : Int) := by simpa only [Bool.not_eq_false', decide_eq_true_iff] using hb
          have hb' : xs2.length = xs.length := by omega
          have hsm : ds.length ≤ 1000 := by
            cases n with
            | zero => exact absurd hs (by simp [Shal])
            | succ n => exact hs.1
          walk_at "RR"
          refine k_lcR1 (by omega) (fun dd hdd => ⟨fun i H' => ∃ acc : List V, H' dd = some (.lst acc) ∧ Same H H' ∧ acc.length ≤ i ∧ (acc = [] ↔ ∀ j, j < i → ds2[j]? = ds[j]?), ?_, ?_, ?_⟩)
          · exact ⟨[], upd_same, same_new hdd, Nat.le_refl _, by simp⟩
          · rintro i H1 hi ⟨acc, h1, h2, h3, h4⟩
            obtain ⟨v2, d2, g1, g2, g3⟩ := DpAll.at ha2 (i := i) (by omega)
            obtain ⟨v1, d1, f1, f2, f3⟩ := DpAll.at ha (i := i) (by omega)
            have hL2 : SqL K H1 ad2 xs2 := h2.seq hl2
            have hL1 : SqL K H1 ad xs := h2.seq hl
            walk_at "RR"
            cases n with
            | zero => exact absurd hs (by simp [Shal])
            | succ n =>
              refine ⟨_, _, _, _, rfl, Dp.same h2 g3, Dp.same h2 f3, hs.2 _ (List.mem_of_getElem? f2), fun b H2 e2 hb => ?_⟩
              walk_at "RR"
              refine k_tst (fun hb2 => ?_) (fun hb2 => ?_)
              · walk_at "RR"
                refine k_elt (acc := acc) (e2 _ _ h1) (by omega) ⟨acc ++ [_], upd_same, Same.mut (h2.trans e2) hdd, by rw [List.length_append, List.length_singleton]; omega, ⟨fun z => absurd z (by simp), fun z => ?_⟩⟩
                have z1 := z i (Nat.lt_succ_self i)
                rw [g2, f2] at z1
                have : b = true := hb.mpr (Option.some.inj z1)
                rw [this] at hb2
                cases hb2
              · refine ⟨acc, e2 _ _ h1, h2.trans e2, by omega, ⟨fun z j hj => ?_, fun z => h4.mpr fun j hj => z j (by omega)⟩⟩
                have b1 : b = true := by simpa using hb2
                by_cases hji : j = i
                · rw [hji, g2, f2, hb.mp b1]
                · exact h4.mp z j (by omega)
          · rintro H1 ⟨acc, h1, h2, h3, h4⟩
            walk_at "RR"
            refine q _ _ h2 ?_
            have e0 : (decide (((acc.length : Nat) : Int) = 0) = true) ↔ acc = [] := by
              rw [decide_eq_true_iff]
              constructor
              · intro z
                exact List.eq_nil_of_length_eq_zero (by omega)
              · intro z
                rw [z]
                rfl
            refine e0.trans (h4.trans ⟨fun z => ?_, fun z j _ => ?_⟩)
            · rw [all_at (ds := ds2) (es := ds) (by omega) fun j hj => z j (by omega)]
            · injection z with z
              rw [z]
      | _ => walk_at "RR"; exact q _ _ (Same.refl H) (by simp)
    | tup hl ha =>
      rename_i ad xs ds
      cases hd with
      | tup hl2 ha2 =>
        rename_i ad2 xs2 ds2
        have l1 := DpAll.len ha
        have l2 := DpAll.len ha2
        walk_at "RR"
        refine k_ifS (fun hb => ?_) (fun hb => ?_)
        · walk_at "RR"
          have hb0 : ¬ ((xs2.length : Nat) : Int) = ((xs.length : Nat) : Int) := by simpa only [Bool.not_eq_true', decide_eq_false_iff_not] using hb
          have hb' : ¬ xs2.length = xs.length := by omega
          refine q _ _ (Same.refl H) ⟨fun z => absurd z Bool.false_ne_true, fun z => ?_⟩
          injection z with z
          subst z
          omega
        · have hb0 : ((xs2.length : Nat) : Int) = ((xs.length : Nat) : Int) := by simpa only [Bool.not_eq_false', decide_eq_true_iff] using hb
          have hb' : xs2.length = xs.length := by omega
          have hsm : ds.length ≤ 1000 := by
            cases n with
            | zero => exact absurd hs (by simp [Shal])
            | succ n => exact hs.1
          walk_at "RR"
          refine k_lcR1 (by omega) (fun dd hdd => ⟨fun i H' => ∃ acc : List V, H' dd = some (.lst acc) ∧ Same H H' ∧ acc.length ≤ i ∧ (acc = [] ↔ ∀ j, j < i → ds2[j]? = ds[j]?), ?_, ?_, ?_⟩)
          · exact ⟨[], upd_same, same_new hdd, Nat.le_refl _, by simp⟩
          · rintro i H1 hi ⟨acc, h1, h2, h3, h4⟩
            obtain ⟨v2, d2, g1, g2, g3⟩ := DpAll.at ha2 (i := i) (by omega)
            obtain ⟨v1, d1, f1, f2, f3⟩ := DpAll.at ha (i := i) (by omega)
            have hL2 : SqT K H1 ad2 xs2 := Same.seqT h2 hl2
            have hL1 : SqT K H1 ad xs := Same.seqT h2 hl
            walk_at "RR"
            cases n with
            | zero => exact absurd hs (by simp [Shal])
            | succ n =>
              refine ⟨_, _, _, _, rfl, Dp.same h2 g3, Dp.same h2 f3, hs.2 _ (List.mem_of_getElem? f2), fun b H2 e2 hb => ?_⟩
              walk_at "RR"
              refine k_tst (fun hb2 => ?_) (fun hb2 => ?_)
              · walk_at "RR"
                refine k_elt (acc := acc) (e2 _ _ h1) (by omega) ⟨acc ++ [_], upd_same, Same.mut (h2.trans e2) hdd, by rw [List.length_append, List.length_singleton]; omega, ⟨fun z => absurd z (by simp), fun z => ?_⟩⟩
                have z1 := z i (Nat.lt_succ_self i)
                rw [g2, f2] at z1
                have : b = true := hb.mpr (Option.some.inj z1)
                rw [this] at hb2
                cases hb2
              · refine ⟨acc, e2 _ _ h1, h2.trans e2, by omega, ⟨fun z j hj => ?_, fun z => h4.mpr fun j hj => z j (by omega)⟩⟩
                have b1 : b = true := by simpa using hb2
                by_cases hji : j = i
                · rw [hji, g2, f2, hb.mp b1]
                · exact h4.mp z j (by omega)
          · rintro H1 ⟨acc, h1, h2, h3, h4⟩
            walk_at "RR"
            refine q _ _ h2 ?_
            have e0 : (decide (((acc.length : Nat) : Int) = 0) = true) ↔ acc = [] := by
              rw [decide_eq_true_iff]
              constructor
              · intro z
                exact List.eq_nil_of_length_eq_zero (by omega)
              · intro z
                rw [z]
                rfl
            refine e0.trans (h4.trans ⟨fun z => ?_, fun z j _ => ?_⟩)
            · rw [all_at (ds := ds2) (es := ds) (by omega) fun j hj => z j (by omega)]
            · injection z with z
              rw [z]
      | _ => walk_at "RR"; exact q _ _ (Same.refl H) (by simp)

theorem ok__law_same_all {f : Addr} {fd : FuncData} (F : Fun K "_law_same" "_law_same" s__law_same f fd) (T : Txt K mg) (m : mg "_law_same" = some (.ref f)) (b : Binds K fd ["actual", "due"] []) : ∀ n, FnOk P w K mg base CX0 (n + 1) f fd ["actual", "due"] (sp__law_same K n)
  | 0 => ⟨fun _ _ _ _ h => h.elim, fun _ _ _ _ _ _ _ _ _ _ _ _ _ h => h.elim⟩
  | n + 1 => ok__law_same_step n F T  ⟨ok__law_same_all F T  m b n, m, F.kp, b⟩
theorem sc__law_pool : FnScope ["script", "salt", "cell"] ["script"] (defScope s__law_pool) := ⟨rfl, rfl, rfl, by decide +kernel, rfl, by decide +kernel, by decide +kernel⟩
theorem ok__law_pool {f : Addr} {fd : FuncData} (F : Fun K "_law_pool" "_law_pool" s__law_pool f fd) (T : Txt K mg) : FnOk P w K mg base CX0 1 f fd ["script"] (sp__law_pool K) := by
  refine F.ok sc__law_pool (fun vs H Q E h => ?_) (fun cdv A outer s H vs Q E hr h => ?_)
  · obtain ⟨a, ns, rfl, hS, hn, q⟩ := h
    rfl
  · obtain ⟨a, ns, rfl, hS, hn, q⟩ := h
    refine ⟨_, (pss_cons (ps_set (i := 1) sc__law_pool.nd rfl (by first | exact Or.inl rfl | exact Or.inr rfl) pe_int)
      (pss_cons (ps_for PassesOwn.never rfl (piSeqK (K := K) rfl (pe_slice (slAnyK (K := K) rfl) (pv 0) po_none (po_some pe_int))) (pg_name (i := 2) sc__law_pool.nd rfl (by first | exact Or.inl rfl | exact Or.inr rfl)) (pss_one (ps_set (i := 1) sc__law_pool.nd rfl (by first | exact Or.inl rfl | exact Or.inr rfl) (pe_op op_mod (pe_callTy callInt1 (by rfl) T.z_int (by decide +kernel) (pa_cons (pe_op (opAddK (K := K) rfl) (pe_op opMul (pv 1) pe_int) (pv 2)) pa_nil)) pe_int))))
      (pss_one (ps_ret (pe_lst (pa_cons (pe_callTy (callListOfK (K := K) rfl) (by rfl) T.z_list (by decide +kernel) (pa_cons (pv 0) pa_nil)) (pa_cons pe_int (pa_cons pe_int (pa_cons pe_int (pa_cons (pv 1) pa_nil)))))))))), ?_⟩
    walk_at "R"
    refine w_forL ?_
    walk_at "R"
    refine o_slL hS (fun c H1 nc e1 hc => ?_)
    refine k_forL (fun i σ H' => ∃ z y, σ = [some (.ref a), some (.int z), y] ∧ Same H1 H') (SqL.of hc) ⟨7, none, rfl, Same.refl H1⟩ (fun i σ H' _ hp => ?_) (fun i x σ H' hx hp => ?_) (fun σ H' hp => ?_)
    · obtain ⟨z, y, rfl, e2⟩ := hp
      exact e2.seq (SqL.of hc)
    · obtain ⟨z, y, rfl, e2⟩ := hp
      obtain ⟨n, rfl⟩ := int_of_mem (cut_mem hx)
      walk_at "R"
      exact ⟨_, _, rfl, e2⟩
    · obtain ⟨z, y, rfl, e2⟩ := hp
      walk_at "R"
      refine o_listL (e2.seq (e1.seq hS)) (fun l H2 nl e3 hl => ?_)
      walk_at "R"
      refine k_lst (by simp) (fun p H3 np e4 hp => ?_)
      exact q p l H3 (e1.trans (e2.trans (e3.trans e4))) ((e1.trans (e2.trans e3)).free np) ((e1.trans e2).free nl) ⟨ns, 0, 0, 0, z, hp, e4 _ _ hl, hn, by omega, by omega⟩

theorem sc__law_spread : FnScope ["cell", "mixed", "total", "k"] ["cell"] (defScope s__law_spread) := ⟨rfl, rfl, rfl, by decide +kernel, rfl, by decide +kernel, by decide +kernel⟩
theorem ok__law_spread {f : Addr} {fd : FuncData} (F : Fun K "_law_spread" "_law_spread" s__law_spread f fd) (T : Txt K mg) : FnOk P w K mg base CX0 1 f fd ["cell"] (sp__law_spread K) := by
  refine F.ok sc__law_spread (fun vs H Q E h => ?_) (fun cdv A outer s H vs Q E hr h => ?_)
  · obtain ⟨c, rfl, q⟩ := h
    rfl
  · obtain ⟨c, rfl, q⟩ := h
    refine ⟨_, (pss_cons (ps_set (i := 1) sc__law_spread.nd rfl (by first | exact Or.inl rfl | exact Or.inr rfl) (pe_op op_mod (pe_callTy callInt1 (by rfl) T.z_int (by decide +kernel) (pa_cons (pv 0) pa_nil)) pe_int))
      (pss_cons (ps_set (i := 2) sc__law_spread.nd rfl (by first | exact Or.inl rfl | exact Or.inr rfl) pe_int)
      (pss_cons (ps_for PassesOwn.never rfl (pi_range1 (by rfl) T.z_range (pa_cons pe_int pa_nil)) (pg_name (i := 3) sc__law_spread.nd rfl (by first | exact Or.inl rfl | exact Or.inr rfl)) (pss_cons (ps_set (i := 1) sc__law_spread.nd rfl (by first | exact Or.inl rfl | exact Or.inr rfl) (pe_op op_mod (pe_callTy callInt1 (by rfl) T.z_int (by decide +kernel) (pa_cons (pe_op (opAddK (K := K) rfl) (pe_op (opAddK (K := K) rfl) (pe_op opMul (pv 1) pe_int) pe_int) (pv 3)) pa_nil)) pe_int))
      (pss_one (ps_set (i := 2) sc__law_spread.nd rfl (by first | exact Or.inl rfl | exact Or.inr rfl) (pe_op (opAddK (K := K) rfl) (pe_op opMul (pv 2) pe_int) (pv 1))))))
      (pss_one (ps_ret (pv 2)))))), ?_⟩
    walk_at "R"
    refine k_forR1 (fun i σ H' => ∃ z t y, σ = [some (.int c), some (.int z), some (.int t), y] ∧ H' = H ∧ 0 ≤ z ∧ 0 < t) (by omega) ⟨_, 1, none, rfl, rfl, by omega, by omega⟩ (fun i σ H' hi hp => ?_) (fun σ H' hp => ?_)
    · obtain ⟨z, t, y, rfl, rfl, h0, h1⟩ := hp
      walk_at "R"
      exact ⟨_, _, _, rfl, rfl, by omega, by omega⟩
    · obtain ⟨z, t, y, rfl, rfl, h0, h1⟩ := hp
      walk_at "R"
      exact q _ h1

theorem sc__law_draw : FnScope ["pool", "many", "cell", "mixed", "value"] ["pool", "many"] (defScope s__law_draw) := ⟨rfl, rfl, rfl, by decide +kernel, rfl, by decide +kernel, by decide +kernel⟩
theorem ok__law_draw {f : Addr} {fd : FuncData} (F : Fun K "_law_draw" "_law_draw" s__law_draw f fd) (T : Txt K mg) {f__law_spread : Addr} {fd__law_spread : FuncData} (C__law_spread : Cal P w K mg base "_law_spread" f__law_spread fd__law_spread ["cell"] (sp__law_spread K) 1) : FnOk P w K mg base CX0 2 f fd ["pool", "many"] (sp__law_draw K) := by
  refine F.ok sc__law_draw (fun vs H Q E h => ?_) (fun cdv A outer s H vs Q E hr h => ?_)
  · obtain ⟨p, l, m, rfl, hm, hm2, hP, q⟩ := h
    rfl
  · obtain ⟨p, l, m, rfl, hm, hm2, hP, q⟩ := h
    refine ⟨_, (pss_cons (ps_if ((pw_and (pt_cmpR op_le (pe_ix (ixSeqK (K := K) rfl) (pv 0) pe_int (fun _ _ => rfl)) pe_int (nomark _)) (pw_and1 (pt_cmpR opLt (pe_ix (ixSeqK (K := K) rfl) (pv 0) pe_int (fun _ _ => rfl)) (pe_callB (callLenK (K := K) rfl) (by rfl) T.z_len (by decide +kernel) (pa_cons (pe_ix (ixSeqK (K := K) rfl) (pv 0) pe_int (fun _ _ => rfl)) pa_nil)) (nomark _))))).pt (pss_cons (ps_set (i := 2) sc__law_draw.nd rfl (by first | exact Or.inl rfl | exact Or.inr rfl) (pe_ix (ixSeqK (K := K) rfl) (pe_ix (ixSeqK (K := K) rfl) (pv 0) pe_int (fun _ _ => rfl)) (pe_ix (ixSeqK (K := K) rfl) (pv 0) pe_int (fun _ _ => rfl)) (fun _ _ => rfl)))
      (pss_cons (ps_asg (pe_op (opAddK (K := K) rfl) (pe_ix (ixSeqK (K := K) rfl) (pv 0) pe_int (fun _ _ => rfl)) pe_int) (pg_sub (pv 0) pe_int set_list))
      (pss_cons (ps_asg (pv 2) (pg_sub (pv 0) pe_int set_list))
      (pss_one (ps_if (pt_cmpR opLt (pv 2) pe_int (nomark _)) (pss_one (ps_asg (pe_call C__law_spread.G (hr.mono (by first | decide | omega)) (by rfl) C__law_spread.m C__law_spread.kp C__law_spread.b .nil pass0 (pa_cons (pv 2) pa_nil)) (pg_sub (pv 0) pe_int set_list))) pss_nil))))) pss_nil)
      (pss_cons (ps_asg (pe_op (opAddK (K := K) rfl) (pe_ix (ixSeqK (K := K) rfl) (pv 0) pe_int (fun _ _ => rfl)) pe_int) (pg_sub (pv 0) pe_int set_list))
      (pss_cons (ps_if (pt_cmpR op_le (pe_ix (ixSeqK (K := K) rfl) (pv 0) pe_int (fun _ _ => rfl)) pe_int (nomark _)) (pss_cons (ps_set (i := 3) sc__law_draw.nd rfl (by first | exact Or.inl rfl | exact Or.inr rfl) (pe_op op_mod (pe_callTy callInt1 (by rfl) T.z_int (by decide +kernel) (pa_cons (pe_op (opAddK (K := K) rfl) (pe_op (opAddK (K := K) rfl) (pe_op opMul (pe_ix (ixSeqK (K := K) rfl) (pv 0) pe_int (fun _ _ => rfl)) pe_int) (pe_op opMul (pe_ix (ixSeqK (K := K) rfl) (pv 0) pe_int (fun _ _ => rfl)) pe_int)) pe_int) pa_nil)) pe_int))
      (pss_cons (ps_set (i := 3) sc__law_draw.nd rfl (by first | exact Or.inl rfl | exact Or.inr rfl) (pe_op op_mod (pe_callTy callInt1 (by rfl) T.z_int (by decide +kernel) (pa_cons (pe_op (opAddK (K := K) rfl) (pe_op opMul (pv 3) pe_int) (pe_ix (ixSeqK (K := K) rfl) (pv 0) pe_int (fun _ _ => rfl))) pa_nil)) pe_int))
      (pss_one (ps_ret (pe_op op_mod (pe_op op_fdivW (pv 3) pe_int) (pv 1)))))) pss_nil)
      (pss_cons (ps_set (i := 4) sc__law_draw.nd rfl (by first | exact Or.inl rfl | exact Or.inr rfl) (pe_op op_mod (pe_callTy callInt1 (by rfl) T.z_int (by decide +kernel) (pa_cons (pe_ix (ixSeqK (K := K) rfl) (pv 0) pe_int (fun _ _ => rfl)) pa_nil)) (pv 1)))
      (pss_cons (ps_asg (pe_op op_fdivW (pe_ix (ixSeqK (K := K) rfl) (pv 0) pe_int (fun _ _ => rfl)) (pv 1)) (pg_sub (pv 0) pe_int set_list))
      (pss_one (ps_ret (pv 4)))))))), ?_⟩
    obtain ⟨ns, a, b, c, d, hp, hl, hn, ha, hb⟩ := hP
    walk_at "R"
    refine w_cut (fun σ' H' => ∃ (y : Option V) (a b : Int), σ' = [some (.ref p), some (.int m), y, none, none] ∧ But p H H' ∧ H' p = some (.lst [.ref l, .int a, .int b, .int c, .int d]) ∧ 0 ≤ a ∧ 0 ≤ b) (fun σ' H' hr1 => ?_) (fun N hN => ?_)
    · obtain ⟨y, a, b, rfl, e1, hp1, ha, hb⟩ := hr1
      have hl1 : H' l = some (.lst (ns.map V.int)) := e1 _ _ (fun z => by
        rw [z, hp] at hl
        cases ns with
        | nil => cases hl
        | cons n ns => cases hl) hl
      walk_at "R"
      refine k_sub2G 3 rfl hp1 (by simp) (fun H2 e2 (hp2 : H2 p = some (.lst [.ref l, .int a, .int b, .int (c + 1), .int d])) => ?_)
      have hlp : l ≠ p := fun z => by
        rw [z, hp] at hl
        cases ns with
        | nil => cases hl
        | cons n ns => cases hl
      have hl2 : H2 l = some (.lst (ns.map V.int)) := e2 _ _ hlp hl1
      walk_at "RR"
      refine k_ifS (fun h0 => ?_) (fun h0 => ?_)
      · walk_at "RR"
        exact q _ _ (Int.emod_nonneg _ (by omega)) (Int.emod_lt_of_pos _ hm) (e1.trans e2) ⟨ns, a, b, c + 1, d, hp2, hl2, hn, ha, hb⟩
      · walk_at "RR"
        refine k_sub2G 2 rfl hp2 (by simp) (fun H3 e3 (hp3 : H3 p = some (.lst [.ref l, .int a, .int (b / m), .int (c + 1), .int d])) => ?_)
        walk_at "RR"
        exact q _ _ (Int.emod_nonneg _ (by omega)) (Int.emod_lt_of_pos _ hm) ((e1.trans e2).trans e3) ⟨ns, a, b / m, c + 1, d, hp3, e3 _ _ hlp hl2, hn, ha, Int.ediv_nonneg hb (by omega)⟩
    · refine w_ifS ?_
      walk_at "R"
      refine k_and (fun h0 => ?_) (fun h0 => ?_)
      · walk_at "R"
        refine k_ifS (fun h1 => ?_) (fun h1 => ?_)
        · obtain ⟨k, rfl⟩ := Int.eq_ofNat_of_zero_le ha
          have h2 := of_decide_eq_true h1
          rw [List.length_map] at h2
          have hk : k < ns.length := by omega
          have hx : (ns.map V.int)[k]? = some (.int ns[k]) := by
            rw [List.getElem?_map, List.getElem?_eq_getElem hk]
            rfl
          have hlp : l ≠ p := fun z => by
            rw [z, hp] at hl
            cases ns with
            | nil => cases hl
            | cons n ns => cases hl
          walk_at "R"
          refine k_sub2G 1 rfl hp (by simp) (fun H2 e2 (hp2 : H2 p = some (.lst [.ref l, .int (k + 1), .int b, .int c, .int d])) => ?_)
          walk_at "R"
          refine k_sub2G 2 rfl hp2 (by simp) (fun H3 e3 (hp3 : H3 p = some (.lst [.ref l, .int (k + 1), .int ns[k], .int c, .int d])) => ?_)
          walk_at "RR"
          refine k_ifS (fun h3 => ?_) (fun h3 => ?_)
          · walk_at "R"
            refine ⟨_, rfl, fun v hv => ?_⟩
            walk_at "R"
            refine k_sub2G 2 rfl hp3 (by simp) (fun H4 e4 (hp4 : H4 p = some (.lst [.ref l, .int (k + 1), .int v, .int c, .int d])) => ?_)
            walk_at "R"
            exact hN _ _ ⟨_, _, _, rfl, (e2.trans e3).trans e4, hp4, by omega, by omega⟩
          · have h4 := of_decide_eq_false h3
            walk_at "R"
            exact hN _ _ ⟨_, _, _, rfl, e2.trans e3, hp3, by omega, by omega⟩
        · walk_at "R"
          exact hN _ _ ⟨none, a, b, rfl, But.refl _ _, hp, ha, hb⟩
      · walk_at "R"
        exact hN _ _ ⟨none, a, b, rfl, But.refl _ _, hp, ha, hb⟩

theorem sc_channel_spells : FnScope ["channel", "passage", "enter", "way", "found", "k", "passed", "begin"] ["channel", "passage"] (defScope s_channel_spells) := ⟨rfl, rfl, rfl, by decide +kernel, rfl, by decide +kernel, by decide +kernel⟩
theorem ok_channel_spells {f : Addr} {fd : FuncData} (F : Fun K "channel_spells" "channel_spells" s_channel_spells f fd) (T : Txt K mg) : FnOk P w K mg base CX0 1 f fd ["channel", "passage"] (sp_channel_spells K) := by
  refine F.ok sc_channel_spells (fun vs H Q E h => ?_) (fun cdv A outer s H vs Q E hr h => ?_)
  · obtain ⟨c, p, cs, e, w, rfl, hc, hl, hp, q⟩ := h
    rfl
  · obtain ⟨c, p, cs, e, w, rfl, hc, hl, hp, q⟩ := h
    refine ⟨_, (pss_cons (ps_asg (pv 1) (pgTupK (K := K) (n := 2) rfl rfl (pgs_cons (pg_name (i := 2) sc_channel_spells.nd rfl (by first | exact Or.inl rfl | exact Or.inr rfl)) (pgs_cons (pg_name (i := 3) sc_channel_spells.nd rfl (by first | exact Or.inl rfl | exact Or.inr rfl)) pgs_nil))))
      (pss_cons (ps_set (i := 4) sc_channel_spells.nd rfl (by first | exact Or.inl rfl | exact Or.inr rfl) (pe_lst pa_nil))
      (pss_cons (ps_for PassesOwn.never rfl (pi_range1 (by rfl) T.z_range (pa_cons (pe_callB (callLenK (K := K) rfl) (by rfl) T.z_len (by decide +kernel) (pa_cons (pv 0) pa_nil)) pa_nil)) (pg_name (i := 5) sc_channel_spells.nd rfl (by first | exact Or.inl rfl | exact Or.inr rfl)) (pss_cons (ps_set (i := 6) sc_channel_spells.nd rfl (by first | exact Or.inl rfl | exact Or.inr rfl) (pe_ifExp (pt_cmpR (opEqK (K := K) rfl hr.units) (pv 3) (peGlobE (by rfl) T.c_INWARDS) (nomark _)) (pe_slice (slAnyK (K := K) rfl) (pv 0) po_none (po_some (pv 5))) (pe_slice (slAnyK (K := K) rfl) (pv 0) (po_some (pe_op (opAddK (K := K) rfl) (pv 5) pe_int)) po_none)))
      (pss_cons (ps_set (i := 7) sc_channel_spells.nd rfl (by first | exact Or.inl rfl | exact Or.inr rfl) (pe_op (opAddK (K := K) rfl) (pv 2) (pe_callB (callSumG (K := K) rfl rfl) (by rfl) T.z_sum (by decide +kernel) (pa_cons (pv 6) pa_nil))))
      (pss_one (ps_expr (pe_bm PySem.F.plainAttrs_list PySem.F.slot_list_append PySem.F.type_list_append mt_append (pv 4) (pa_cons (pe_tup (pa_cons (pv 7) (pa_cons (pe_op (opAddK (K := K) rfl) (pv 7) (pe_ix (ixSeqK (K := K) rfl) (pv 0) (pv 5) (fun _ _ => rfl))) pa_nil))) pa_nil)))))))
      (pss_one (ps_ret (pv 4)))))), ?_⟩
    walk_at "R"
    refine g_tup hp rfl ?_
    walk_at "R"
    refine k_lst (by simp) (fun f H1 nf e1 hf => ?_)
    walk_at "R"
    rw [List.length_map]
    refine k_forR1 (fun i σ H' => ∃ y5 y6 y7 us, σ = [some (.ref c), some (.ref p), some (.int e), some (.str (wS w)), some (.ref f), y5, y6, y7] ∧ Same H H' ∧ H' f = some (.lst us) ∧ Paired (PrT K H') us ((chSp cs e w).take i)) (by omega) ⟨none, none, none, [], rfl, e1, hf, .nil⟩ ?_ ?_
    · rintro i σ H2 hi ⟨y5, y6, y7, us, rfl, e2, hf2, hp2⟩
      have hc2 := Same.seqT e2 hc
      have hi' : i < cs.length := by omega
      have hat := getD_at hi'
      walk_at "R"
      rw [wS_in]
      refine k_if (fun hw => ?_) (fun hw => ?_)
      · walk_at "R"
        refine o_slT hc2 (fun t3 H3 e3 ht3 => ?_)
        rw [cut_take (Nat.le_of_lt hi')] at ht3
        walk_at "R"
        refine o_sumT ht3 ?_
        have hc3 := Same.seqT e3 hc2
        walk_at "R"
        refine k_bmL (SqL.of (e3 _ _ hf2)) ?_
        walk_at "R"
        refine k_tup (by simp) (fun t4 H4 nt4 e4 ht4 => ?_)
        walk_at "R"
        have lus : us.length ≤ i := by rw [paired_len hp2, List.length_take]; omega
        refine o_app (e4 _ _ (e3 _ _ hf2)) (by omega) ?_
        walk_at "R"
        refine ⟨_, _, _, _, rfl, Same.mut (e2.trans (e3.trans e4)) nf, upd_same, ?_⟩
        rw [take_snoc (chSp_at hi')]
        have t4f : t4 ≠ f := (ne_of_none (e3 _ _ hf2) nt4).symm
        refine paired_app ⟨t4, rfl, SqT.of (by rw [upd_ne t4f, ht4]; unfold sec chB; rw [hw, if_pos rfl])⟩ (paired_map (fun _ _ h => ?_) hp2)
        exact PrT.updL (PrT.same (e3.trans e4) h) (e4 _ _ (e3 _ _ hf2))
      · walk_at "R"
        have hslice : cutV (cs.map V.int) (some ((i : Int) + 1)) none = (cs.drop (i + 1)).map V.int := cut_drop (k := i + 1) hi'
        refine o_slT hc2 (fun t3 H3 e3 ht3 => ?_)
        rw [hslice] at ht3
        walk_at "R"
        refine o_sumT ht3 ?_
        have hc3 := Same.seqT e3 hc2
        walk_at "R"
        refine k_bmL (SqL.of (e3 _ _ hf2)) ?_
        walk_at "R"
        refine k_tup (by simp) (fun t4 H4 nt4 e4 ht4 => ?_)
        walk_at "R"
        have lus : us.length ≤ i := by rw [paired_len hp2, List.length_take]; omega
        refine o_app (e4 _ _ (e3 _ _ hf2)) (by omega) ?_
        walk_at "R"
        refine ⟨_, _, _, _, rfl, Same.mut (e2.trans (e3.trans e4)) nf, upd_same, ?_⟩
        rw [take_snoc (chSp_at hi')]
        have t4f : t4 ≠ f := (ne_of_none (e3 _ _ hf2) nt4).symm
        refine paired_app ⟨t4, rfl, SqT.of (by rw [upd_ne t4f, ht4]; unfold sec chB; rw [hw, if_neg Bool.false_ne_true])⟩ (paired_map (fun _ _ h => ?_) hp2)
        exact PrT.updL (PrT.same (e3.trans e4) h) (e4 _ _ (e3 _ _ hf2))
    · rintro σ H2 ⟨y5, y6, y7, us, rfl, e2, hf2, hp2⟩
      walk_at "R"
      rw [Int.toNat_natCast, List.take_of_length_le (by rw [chSp_len]; exact Nat.le_refl _)] at hp2
      exact q f us H2 e2 nf hf2 hp2

theorem sc_is_meeting : FnScope ["channel", "one", "two", "ours", "theirs", "a", "b"] ["channel", "one", "two"] (defScope s_is_meeting) := ⟨rfl, rfl, rfl, by decide +kernel, rfl, by decide +kernel, by decide +kernel⟩
theorem ok_is_meeting {f : Addr} {fd : FuncData} (F : Fun K "is_meeting" "is_meeting" s_is_meeting f fd) (T : Txt K mg) {f_channel_spells : Addr} {fd_channel_spells : FuncData} (C_channel_spells : Cal P w K mg base "channel_spells" f_channel_spells fd_channel_spells ["channel", "passage"] (sp_channel_spells K) 1) : FnOk P w K mg base CX0 3 f fd ["channel", "one", "two"] (sp_is_meeting K) := by
  refine F.ok sc_is_meeting (fun vs H Q E h => ?_) (fun cdv A outer s H vs Q E hr h => ?_)
  · obtain ⟨c, p, p2, cs, e1, e2, w1, w2, rfl, hc, hl, h1, h2, q⟩ := h
    rfl
  · obtain ⟨c, p, p2, cs, e1, e2, w1, w2, rfl, hc, hl, h1, h2, q⟩ := h
    refine ⟨_, (pss_cons (ps_set (i := 3) sc_is_meeting.nd rfl (by first | exact Or.inl rfl | exact Or.inr rfl) (pe_call C_channel_spells.G (hr.mono (by first | decide | omega)) (by rfl) C_channel_spells.m C_channel_spells.kp C_channel_spells.b .nil pass0 (pa_cons (pv 0) (pa_cons (pv 1) pa_nil))))
      (pss_cons (ps_set (i := 4) sc_is_meeting.nd rfl (by first | exact Or.inl rfl | exact Or.inr rfl) (pe_call C_channel_spells.G (hr.mono (by first | decide | omega)) (by rfl) C_channel_spells.m C_channel_spells.kp C_channel_spells.b .nil pass0 (pa_cons (pv 0) (pa_cons (pv 2) pa_nil))))
      (pss_one (ps_ret (pe_callB (callAnyK (K := K) rfl rfl) (by rfl) T.z_any (by decide +kernel) (pa_cons (pe_lc (own := [("a", 5), ("b", 6)]) (by rfl) sc_is_meeting.nd (pi_zip (by rfl) T.z_zip (pa_cons (pv 3) (pa_cons (pv 4) pa_nil))) (blkOk_by (own := [("a", 5), ("b", 6)]) (N := ["channel", "one", "two", "ours", "theirs", "a", "b"]) (sc := defScope s_is_meeting) (by decide +kernel)) (fun _ _ _ _ _ => (pgTupK (K := K) (n := 2) rfl rfl (pgs_cons (pg_name (i := 5) sc_is_meeting.nd rfl (by first | exact Or.inl rfl | exact Or.inr rfl)) (pgs_cons (pg_name (i := 6) sc_is_meeting.nd rfl (by first | exact Or.inl rfl | exact Or.inr rfl)) pgs_nil)))) (fun _ _ _ _ _ => pts_nil) (fun _ _ _ _ _ => (pe_and (pe_cmpR opLt (pe_ix (ixSeqK (K := K) rfl) (pv 5) pe_int (fun _ _ => rfl)) (pe_ix (ixSeqK (K := K) rfl) (pv 6) pe_int (fun _ _ => rfl)) (nomark _)) (pe_one (pe_cmpR opLt (pe_ix (ixSeqK (K := K) rfl) (pv 6) pe_int (fun _ _ => rfl)) (pe_ix (ixSeqK (K := K) rfl) (pv 5) pe_int (fun _ _ => rfl)) (nomark _)))))) pa_nil)))))), ?_⟩
    walk_at "R"
    refine ⟨_, _, _, _, _, rfl, hc, hl, h1, fun t1 us1 H1 g1 nt1 ht1 hp1 => ?_⟩
    walk_at "R"
    refine ⟨_, _, _, _, _, rfl, Same.seqT g1 hc, hl, Same.seqT g1 h2, fun t2 us2 H2 g2 nt2 ht2 hp2 => ?_⟩
    walk_at "R"
    refine w_lcZ ?_
    walk_at "R"
    have l1 : us1.length = cs.length := by rw [paired_len hp1, chSp_len]
    have l2 : us2.length = cs.length := by rw [paired_len hp2, chSp_len]
    refine k_lcZ (SqL.of (g2 _ _ ht1)) (SqL.of ht2) (by omega) (fun dd hdd => ⟨fun i H' => ∃ bs : List Bool, H' dd = some (.lst (bs.map V.bl)) ∧ Same H2 H' ∧ bs.length ≤ i ∧ (bs.any id = true ↔ ∃ k, k < i ∧ (sec cs e1 w1 k).1 < (sec cs e2 w2 k).2 ∧ (sec cs e2 w2 k).1 < (sec cs e1 w1 k).2), ?_, ?_, ?_, ?_⟩)
    · exact ⟨[], upd_same, same_new hdd, Nat.le_refl _, by simp⟩
    · rintro i H' ⟨bs, _, e3, _⟩
      exact ⟨SqL.of (e3 _ _ (g2 _ _ ht1)), SqL.of (e3 _ _ ht2)⟩
    · rintro i x y T H3 hx hy ⟨bs, hbs, e3, hbl, hbi⟩ nT
      obtain ⟨s1, hs1, r1, rfl, hr1⟩ := paired_at hp1 hx
      obtain ⟨s2, hs2, r2, rfl, hr2⟩ := paired_at hp2 hy
      have hi : i < cs.length := by
        have := (List.getElem?_eq_some_iff.mp hx).1
        omega
      rw [chSp_at hi] at hs1 hs2
      obtain rfl := Option.some.inj hs1
      obtain rfl := Option.some.inj hs2
      have e4 : Same H3 (upd H3 T (.tup [.ref r1, .ref r2])) := same_new nT
      have q1 : SqT K (upd H3 T (.tup [.ref r1, .ref r2])) r1 _ := Same.seqT (g2.trans (e3.trans e4)) hr1
      have q2 : SqT K (upd H3 T (.tup [.ref r1, .ref r2])) r2 _ := Same.seqT (e3.trans e4) hr2
      have hd4 := e4 _ _ hbs
      refine g_tup (SqT.of upd_same) rfl ?_
      generalize upd H3 T (.tup [.ref r1, .ref r2]) = H4 at *
      walk_at "R"
      have hN : ∀ b : Bool, (b = true ↔ ((sec cs e1 w1 i).1 < (sec cs e2 w2 i).2 ∧ (sec cs e2 w2 i).1 < (sec cs e1 w1 i).2)) → kElt dd (fun H' => ∃ bs : List Bool, H' dd = some (.lst (bs.map V.bl)) ∧ Same H2 H' ∧ bs.length ≤ i + 1 ∧ (bs.any id = true ↔ ∃ k, k < i + 1 ∧ (sec cs e1 w1 k).1 < (sec cs e2 w2 k).2 ∧ (sec cs e2 w2 k).1 < (sec cs e1 w1 k).2)) (.bl b) H4 := fun b hb => by
        refine k_elt hd4 (by rw [List.length_map]; omega) ⟨bs ++ [b], by rw [upd_same, List.map_append]; rfl, Same.mut (e3.trans e4) hdd, by rw [List.length_append, List.length_singleton]; omega, ?_⟩
        rw [List.any_append, Bool.or_eq_true, hbi]
        constructor
        · rintro (⟨k, hk, z⟩ | z)
          · exact ⟨k, by omega, z⟩
          · exact ⟨i, Nat.lt_succ_self i, hb.mp (by simpa using z)⟩
        · rintro ⟨k, hk, z⟩
          by_cases hki : k = i
          · subst hki
            exact .inr (by simpa using hb.mpr z)
          · exact .inl ⟨k, by omega, z⟩
      refine k_andV (fun hb => ?_) (fun hb => ?_)
      · have hb' := of_decide_eq_true hb
        walk_at "R"
        refine hN _ ⟨fun z => ⟨hb', of_decide_eq_true z⟩, fun z => decide_eq_true z.2⟩
      · have hb' := of_decide_eq_false hb
        walk_at "R"
        exact hN _ ⟨fun z => absurd z Bool.false_ne_true, fun z => absurd z.1 hb'⟩
    · rintro H3 ⟨bs, hbs, e3, hbl, hbi⟩
      walk_at "R"
      refine o_any (SqL.of hbs) ?_
      rw [l1] at hbi
      exact q _ H3 (g1.trans (g2.trans e3)) hbi

theorem sc_fault_of : FnScope ["channel", "headway", "one", "two"] ["channel", "headway", "one", "two"] (defScope s_fault_of) := ⟨rfl, rfl, rfl, by decide +kernel, rfl, by decide +kernel, by decide +kernel⟩
theorem ok_fault_of {f : Addr} {fd : FuncData} (F : Fun K "fault_of" "fault_of" s_fault_of f fd) (T : Txt K mg) {f_is_meeting : Addr} {fd_is_meeting : FuncData} (C_is_meeting : Cal P w K mg base "is_meeting" f_is_meeting fd_is_meeting ["channel", "one", "two"] (sp_is_meeting K) 3) : FnOk P w K mg base CX0 4 f fd ["channel", "headway", "one", "two"] (sp_fault_of K) := by
  refine F.ok sc_fault_of (fun vs H Q E h => ?_) (fun cdv A outer s H vs Q E hr h => ?_)
  · obtain ⟨c, p, p2, cs, hw, e1, e2, w1, w2, rfl, hc, hl, h1, h2, q⟩ := h
    rfl
  · obtain ⟨c, p, p2, cs, hw, e1, e2, w1, w2, rfl, hc, hl, h1, h2, q⟩ := h
    refine ⟨_, (pss_cons (ps_if (pt_cmpR (opNeK (K := K) rfl hr.units) (pe_ix (ixSeqK (K := K) rfl) (pv 2) pe_int (fun _ _ => rfl)) (pe_ix (ixSeqK (K := K) rfl) (pv 3) pe_int (fun _ _ => rfl)) (nomark _)) (pss_one (ps_ret (pe_ifExp (pt_val (pe_call C_is_meeting.G (hr.mono (by first | decide | omega)) (by rfl) C_is_meeting.m C_is_meeting.kp C_is_meeting.b .nil pass0 (pa_cons (pv 0) (pa_cons (pv 2) (pa_cons (pv 3) pa_nil))))) pe_str pe_non))) pss_nil)
      (pss_one (ps_ret (pe_ifExp (pt_cmpR opLt (pe_callB callAbs (by rfl) T.z_abs (by decide +kernel) (pa_cons (pe_op op_sub (pe_ix (ixSeqK (K := K) rfl) (pv 2) pe_int (fun _ _ => rfl)) (pe_ix (ixSeqK (K := K) rfl) (pv 3) pe_int (fun _ _ => rfl))) pa_nil)) (pv 1) (nomark _)) pe_str pe_non)))), ?_⟩
    walk_at "RR"
    rw [wS_eq]
    refine k_ifS (fun hb => ?_) (fun hb => ?_)
    · have hne : w1 ≠ w2 := by simpa using hb
      walk_at "R"
      refine ⟨_, _, _, _, _, _, _, _, rfl, hc, hl, h1, h2, fun b H1 g1 hb1 => ?_⟩
      walk_at "R"
      refine k_if (fun z => ?_) (fun z => ?_)
      · have q1 := q H1 g1
        rw [fault_meet hne (hb1.mp z)] at q1
        walk_at "R"
        exact q1
      · have q1 := q H1 g1
        rw [fault_clear hne (fun m => by rw [hb1.mpr m] at z; cases z)] at q1
        walk_at "R"
        exact q1
    · have heq : w1 = w2 := by simpa using hb
      subst heq
      have q1 := q H (Same.refl H)
      rw [fault_same] at q1
      walk_at "R"
      refine k_if (fun z => ?_) (fun z => ?_)
      · have z' := of_decide_eq_true z
        rw [if_pos (by split at z' <;> omega)] at q1
        walk_at "R"
        exact q1
      · have z' := of_decide_eq_false z
        rw [if_neg (by split at z' <;> omega)] at q1
        walk_at "R"
        exact q1

theorem sc__law_channel : FnScope ["pool", "k"] ["pool"] (defScope s__law_channel) := ⟨rfl, rfl, rfl, by decide +kernel, rfl, by decide +kernel, by decide +kernel⟩
theorem ok__law_channel {f : Addr} {fd : FuncData} (F : Fun K "_law_channel" "_law_channel" s__law_channel f fd) (T : Txt K mg) {f__law_draw : Addr} {fd__law_draw : FuncData} (C__law_draw : Cal P w K mg base "_law_draw" f__law_draw fd__law_draw ["pool", "many"] (sp__law_draw K) 2) : FnOk P w K mg base CX0 3 f fd ["pool"] (sp__law_channel K) := by
  refine F.ok sc__law_channel (fun vs H Q E h => ?_) (fun cdv A outer s H vs Q E hr h => ?_)
  · obtain ⟨p, l, rfl, hP, q⟩ := h
    rfl
  · obtain ⟨p, l, rfl, hP, q⟩ := h
    refine ⟨_, (pss_one (ps_ret (pe_callTy (callTupOfK (K := K) rfl) (by rfl) T.z_tuple (by decide +kernel) (pa_cons (pe_lc (own := [("k", 1)]) (by rfl) sc__law_channel.nd (pi_range1 (by rfl) T.z_range (pa_cons (pe_op (opAddK (K := K) rfl) pe_int (pe_call C__law_draw.G (hr.mono (by first | decide | omega)) (by rfl) C__law_draw.m C__law_draw.kp C__law_draw.b .nil pass0 (pa_cons (pv 0) (pa_cons pe_int pa_nil)))) pa_nil)) (blkOk_by (own := [("k", 1)]) (N := ["pool", "k"]) (sc := defScope s__law_channel) (by decide +kernel)) (fun _ _ _ _ _ => (pg_name (i := 1) sc__law_channel.nd rfl (by first | exact Or.inl rfl | exact Or.inr rfl))) (fun _ _ _ _ _ => pts_nil) (fun _ _ _ _ _ => (pe_op (opAddK (K := K) rfl) pe_int (pe_call C__law_draw.G (hr.mono (by first | decide | omega)) (by rfl) C__law_draw.m C__law_draw.kp C__law_draw.b .nil pass0 (pa_cons (pv 0) (pa_cons (pe_ix (ixSeqK (K := K) rfl) (pe_tup (pa_cons pe_int (pa_cons pe_int (pa_cons pe_int pa_nil)))) (pe_call C__law_draw.G (hr.mono (by first | decide | omega)) (by rfl) C__law_draw.m C__law_draw.kp C__law_draw.b .nil pass0 (pa_cons (pv 0) (pa_cons pe_int pa_nil))) (fun _ _ => rfl)) pa_nil)))))) pa_nil)))), ?_⟩
    walk_at "R"
    refine ⟨_, l, _, rfl, by omega, by omega, hP, fun v H1 v0 v1 e1 hP1 => ?_⟩
    walk_at "R"
    refine k_lcR1 (by omega) (fun dd hdd => ⟨fun i H' => ∃ cs : List Int, H' dd = some (.lst (cs.map V.int)) ∧ But p H H' ∧ PoolAt H' p l ∧ cs.length = i ∧ ∀ x ∈ cs, 1 ≤ x ∧ x ≤ 20, ?_, ?_, ?_⟩)
    · exact ⟨[], upd_same, But.mut e1 (e1.free hdd (hP1.np hdd)), hP1.upd (hP1.np hdd) (hP1.nl hdd), rfl, fun x hx => by cases hx⟩
    · rintro i H2 hi ⟨cs, h1, h2, hP2, h3, h4⟩
      have dp := hP1.np hdd
      walk_at "R"
      refine k_tup (by simp) (fun t3 H3 nt3 e3 ht3 => ?_)
      have hP3 := hP2.same e3
      walk_at "R"
      refine ⟨_, l, _, rfl, by omega, by omega, hP3, fun d H4 d0 d1 e4 hP4 => ?_⟩
      have ht4 : SqT K H4 t3 _ := e4.seqT hP3 (SqT.of ht3)
      obtain ⟨w1, hw1, hw2⟩ := at3 (x := 2) (y := 5) (z := 20) d0 d1
      walk_at "R"
      refine ⟨_, l, _, rfl, by omega, by omega, hP4, fun g H5 g0 g1 e5 hP5 => ?_⟩
      walk_at "R"
      have h5 : H5 dd = some (.lst (cs.map V.int)) := e5 _ _ dp (e4 _ _ dp (e3 _ _ h1))
      refine k_elt h5 (by rw [List.length_map]; omega) ⟨cs ++ [1 + g], by rw [upd_same, List.map_append]; rfl, But.mut (((h2.trans (But.of e3)).trans e4).trans e5) (e1.free hdd dp), hP5.upd dp (hP1.nl hdd), by rw [List.length_append, List.length_singleton, h3], fun x hx => ?_⟩
      rcases List.mem_append.mp hx with hx | hx
      · exact h4 x hx
      · rw [List.mem_singleton] at hx
        omega
    · rintro H2 ⟨cs, h1, h2, hP2, h3, h4⟩
      walk_at "R"
      refine o_tupL (SqL.of h1) (fun t H3 nt e3 ht => ?_)
      exact q t cs H3 (h2.trans (But.of e3)) (hP2.same e3) (SqT.of ht) (by omega) (by omega) h4

theorem sc__law_passages : FnScope ["pool", "most", "around", "k"] ["pool", "most"] (defScope s__law_passages) := ⟨rfl, rfl, rfl, by decide +kernel, rfl, by decide +kernel, by decide +kernel⟩
theorem ok__law_passages {f : Addr} {fd : FuncData} (F : Fun K "_law_passages" "_law_passages" s__law_passages f fd) (T : Txt K mg) {f__law_draw : Addr} {fd__law_draw : FuncData} (C__law_draw : Cal P w K mg base "_law_draw" f__law_draw fd__law_draw ["pool", "many"] (sp__law_draw K) 2) : FnOk P w K mg base CX0 3 f fd ["pool", "most"] (sp__law_passages K) := by
  refine F.ok sc__law_passages (fun vs H Q E h => ?_) (fun cdv A outer s H vs Q E hr h => ?_)
  · obtain ⟨p, l, most, rfl, h0, h1, hP, q⟩ := h
    rfl
  · obtain ⟨p, l, most, rfl, h0, h1, hP, q⟩ := h
    refine ⟨_, (pss_cons (ps_set (i := 2) sc__law_passages.nd rfl (by first | exact Or.inl rfl | exact Or.inr rfl) (pe_ix (ixSeqK (K := K) rfl) (pe_tup (pa_cons pe_int (pa_cons pe_int (pa_cons pe_int pa_nil)))) (pe_call C__law_draw.G (hr.mono (by first | decide | omega)) (by rfl) C__law_draw.m C__law_draw.kp C__law_draw.b .nil pass0 (pa_cons (pv 0) (pa_cons pe_int pa_nil))) (fun _ _ => rfl)))
      (pss_one (ps_ret (pe_lc (own := [("k", 3)]) (by rfl) sc__law_passages.nd (pi_range1 (by rfl) T.z_range (pa_cons (pe_call C__law_draw.G (hr.mono (by first | decide | omega)) (by rfl) C__law_draw.m C__law_draw.kp C__law_draw.b .nil pass0 (pa_cons (pv 0) (pa_cons (pe_op (opAddK (K := K) rfl) (pv 1) pe_int) pa_nil))) pa_nil)) (blkOk_by (own := [("k", 3)]) (N := ["pool", "most", "around", "k"]) (sc := defScope s__law_passages) (by decide +kernel)) (fun _ _ _ _ _ => (pg_name (i := 3) sc__law_passages.nd rfl (by first | exact Or.inl rfl | exact Or.inr rfl))) (fun _ _ _ _ _ => pts_nil) (fun _ _ _ _ _ => (pe_tup (pa_cons (pe_call C__law_draw.G (hr.mono (by first | decide | omega)) (by rfl) C__law_draw.m C__law_draw.kp C__law_draw.b .nil pass0 (pa_cons (pv 0) (pa_cons (pv 2) pa_nil))) (pa_cons (pe_ix (ixSeqK (K := K) rfl) (pe_tup (pa_cons pe_str (pa_cons pe_str pa_nil))) (pe_call C__law_draw.G (hr.mono (by first | decide | omega)) (by rfl) C__law_draw.m C__law_draw.kp C__law_draw.b .nil pass0 (pa_cons (pv 0) (pa_cons pe_int pa_nil))) (fun _ _ => rfl)) pa_nil)))))))), ?_⟩
    walk_at "R"
    refine k_tup (by simp) (fun t1 H1 nt1 e1 ht1 => ?_)
    have hP1 := hP.same e1
    walk_at "R"
    refine ⟨_, l, _, rfl, by omega, by omega, hP1, fun d H2 d0 d1 e2 hP2 => ?_⟩
    have ht2 : SqT K H2 t1 _ := e2.seqT hP1 (SqT.of ht1)
    obtain ⟨ar, ha1, ha2⟩ := at3 (x := 6) (y := 40) (z := 200) d0 d1
    walk_at "R"
    refine ⟨_, l, _, rfl, by omega, by omega, hP2, fun m H3 m0 m1 e3 hP3 => ?_⟩
    walk_at "R"
    have e03 : But p H H3 := ((But.of e1).trans e2).trans e3
    refine k_lcR1 (by omega) (fun dd hdd => ⟨fun i H' => ∃ us ps, H' dd = some (.lst us) ∧ But p H H' ∧ PoolAt H' p l ∧ Paired (PsT K H') us ps ∧ ps.length = i ∧ ∀ s ∈ ps, 0 ≤ s.1 ∧ s.1 < 200, ?_, ?_, ?_⟩)
    · exact ⟨[], [], upd_same, But.mut e03 (e03.free hdd (hP3.np hdd)), hP3.upd (hP3.np hdd) (hP3.nl hdd), .nil, rfl, fun x hx => by cases hx⟩
    · rintro i H4 hi ⟨us, ps, h4, h5, hP4, h6, h7, h8⟩
      have dp := hP3.np hdd
      walk_at "R"
      refine ⟨_, l, _, rfl, by omega, by omega, hP4, fun g H5 g0 g1 e5 hP5 => ?_⟩
      walk_at "R"
      refine k_tup (by simp) (fun t6 H6 nt6 e6 ht6 => ?_)
      have hP6 := hP5.same e6
      walk_at "R"
      refine ⟨_, l, _, rfl, by omega, by omega, hP6, fun b H7 b0 b1 e7 hP7 => ?_⟩
      have ht7 : SqT K H7 t6 _ := e7.seqT hP6 (SqT.of ht6)
      obtain ⟨wv, hw1, hw2⟩ := at2 (x := .str "in") (y := .str "out") b0 b1
      obtain ⟨w, rfl⟩ : ∃ w : Bool, wv = .str (wS w) := by
        rcases hw2 with e | e
        · exact ⟨true, e⟩
        · exact ⟨false, e⟩
      walk_at "R"
      refine k_tup (by simp) (fun t8 H8 nt8 e8 ht8 => ?_)
      have e48 : But p H4 H8 := ((e5.trans (But.of e6)).trans e7).trans (But.of e8)
      have h88 : H8 dd = some (.lst us) := e48 _ _ dp h4
      have lus : us.length = ps.length := paired_len h6
      have t8d : t8 ≠ dd := (ne_of_none (e7 _ _ dp (e6 _ _ (e5 _ _ dp h4))) nt8).symm
      refine k_elt h88 (by omega) ⟨us ++ [.ref t8], ps ++ [(g, w)], upd_same, But.mut (h5.trans e48) (e03.free hdd dp), (hP7.same e8).upd dp (hP3.nl hdd), ?_, by rw [List.length_append, List.length_singleton, h7], fun x hx => ?_⟩
      · refine paired_app ⟨t8, rfl, SqT.of (by rw [upd_ne t8d]; exact ht8)⟩ (paired_map (fun _ _ h => ?_) h6)
        obtain ⟨r, z1, z2⟩ := PsT.but e48 hP4 h
        exact ⟨r, z1, SqT.updL z2 h88⟩
      · rcases List.mem_append.mp hx with hx | hx
        · exact h8 x hx
        · rw [List.mem_singleton] at hx
          subst hx
          exact ⟨g0, by omega⟩
    · rintro H4 ⟨us, ps, h4, h5, hP4, h6, h7, h8⟩
      exact q dd us ps H4 h5 hP4 (e03.free hdd (hP3.np hdd)) h4 h6 (by omega) h8

theorem sc__law_in_section : FnScope ["channel", "passage", "number", "order", "k", "begin", "section"] ["channel", "passage", "number"] (defScope s__law_in_section) := ⟨rfl, rfl, rfl, by decide +kernel, rfl, by decide +kernel, by decide +kernel⟩
theorem ok__law_in_section {f : Addr} {fd : FuncData} (F : Fun K "_law_in_section" "_law_in_section" s__law_in_section f fd) (T : Txt K mg) : FnOk P w K mg base CX0 1 f fd ["channel", "passage", "number"] (sp__law_in_section K) := by
  refine F.ok sc__law_in_section (fun vs H Q E h => ?_) (fun cdv A outer s H vs Q E hr h => ?_)
  · obtain ⟨c, p, cs, e, w, k, rfl, hc, hl, hp, hk, q⟩ := h
    rfl
  · obtain ⟨c, p, cs, e, w, k, rfl, hc, hl, hp, hk, q⟩ := h
    refine ⟨_, (pss_cons (ps_set (i := 3) sc__law_in_section.nd rfl (by first | exact Or.inl rfl | exact Or.inr rfl) (pe_listRg rfl (by rfl) T.z_list (prg_1 (by rfl) T.z_range (pe_callB (callLenK (K := K) rfl) (by rfl) T.z_len (by decide +kernel) (pa_cons (pv 0) pa_nil)))))
      (pss_cons (ps_if (pt_cmpR (opEqK (K := K) rfl hr.units) (pe_ix (ixSeqK (K := K) rfl) (pv 1) pe_int (fun _ _ => rfl)) pe_str (nomark _)) (pss_one (ps_setLc (i := 3) (own := [("k", 4)]) (by rfl) sc__law_in_section.nd rfl rfl (sw_true rfl rfl rfl (by decide +kernel)) (piSeqK (K := K) rfl (pv 3)) (blkOk_by (own := [("k", 4)]) (N := ["channel", "passage", "number", "order", "k", "begin", "section"]) (sc := defScope s__law_in_section) (by decide +kernel)) (fun _ _ _ _ _ => (pg_name (i := 4) sc__law_in_section.nd rfl (by first | exact Or.inl rfl | exact Or.inr rfl))) (fun _ _ _ _ _ => pts_nil) (fun _ _ _ _ _ => (pe_op op_sub (pe_op op_sub (pe_callB (callLenK (K := K) rfl) (by rfl) T.z_len (by decide +kernel) (pa_cons (pv 0) pa_nil)) pe_int) (pv 4))))) pss_nil)
      (pss_cons (ps_set (i := 5) sc__law_in_section.nd rfl (by first | exact Or.inl rfl | exact Or.inr rfl) (pe_ix (ixSeqK (K := K) rfl) (pv 1) pe_int (fun _ _ => rfl)))
      (pss_cons (ps_for PassesOwn.never rfl (piSeqK (K := K) rfl (pv 3)) (pg_name (i := 6) sc__law_in_section.nd rfl (by first | exact Or.inl rfl | exact Or.inr rfl)) (pss_cons (ps_if (pt_cmpR (opEqK (K := K) rfl hr.units) (pv 6) (pv 2) (nomark _)) (pss_one (ps_ret (pe_tup (pa_cons (pv 5) (pa_cons (pe_op (opAddK (K := K) rfl) (pv 5) (pe_ix (ixSeqK (K := K) rfl) (pv 0) (pv 6) (fun _ _ => rfl))) pa_nil))))) pss_nil)
      (pss_one (ps_set (i := 5) sc__law_in_section.nd rfl (by first | exact Or.inl rfl | exact Or.inr rfl) (pe_op (opAddK (K := K) rfl) (pv 5) (pe_ix (ixSeqK (K := K) rfl) (pv 0) (pv 6) (fun _ _ => rfl)))))))
      (pss_one (ps_ret pe_non)))))), ?_⟩
    walk_at "R"
    refine k_lrg (by omega) (by omega) (by omega) (by rw [List.length_map]; omega) (fun o1 H1 no1 e1 ho1 => ?_)
    rw [List.length_map] at ho1
    walk_at "R"
    refine w_cut (fun σ' H' => ∃ o y4, σ' = [some (.ref c), some (.ref p), some (.int (k : Nat)), some (.ref o), y4, none, none] ∧ Same H H' ∧ H' o = some (.lst ((List.range cs.length).map fun j => V.int (if w then ((j : Nat) : Int) else (cs.length : Int) - 1 - (j : Nat))))) (fun σ' H' hp1 => ?_) (fun N hN => ?_)
    · obtain ⟨o, y4, rfl, e2, ho⟩ := hp1
      walk_at "R"
      refine w_forL ?_
      walk_at "R"
      refine k_forL (fun i σ H3 => ∃ y6, σ = [some (.ref c), some (.ref p), some (.int (k : Nat)), some (.ref o), y4, some (.int (e + if w then (cs.take i).sum else (cs.drop (cs.length - i)).sum)), y6] ∧ Same H' H3 ∧ i ≤ (if w then k else cs.length - 1 - k)) (SqL.of ho) ⟨none, ?_, Same.refl _, Nat.zero_le _⟩ ?_ ?_ ?_
      · cases w
        · simp
        · simp
      · rintro i σ H3 _ ⟨y6, rfl, e3, _⟩
        exact e3.seq (SqL.of ho)
      · rintro i x σ H3 hx ⟨y6, rfl, e3, hi⟩
        have hil : i < cs.length := by
          have := (List.getElem?_eq_some_iff.mp hx).1
          rw [List.length_map, List.length_range] at this
          exact this
        rw [List.getElem?_map, List.getElem?_range hil] at hx
        obtain rfl := (Option.some.inj hx).symm
        have hc3 := Same.seqT (e2.trans e3) hc
        walk_at "R"
        refine w_ifS ?_
        walk_at "R"
        refine k_ifS (fun hb => ?_) (fun hb => ?_)
        · have hb' := of_decide_eq_true hb
          have hat : atI (cs.map V.int) (if w then ((i : Nat) : Int) else (cs.length : Int) - 1 - (i : Nat)) = some (.int (cs.getD k 0)) := by
            rw [hb']
            exact atI_nat (getD_at hk)
          walk_at "R"
          refine k_tup (by simp) (fun t H4 nt e4 ht => ?_)
          have ei : (e + if w then (cs.take i).sum else (cs.drop (cs.length - i)).sum) = chB cs e w k := by
            unfold chB
            cases w with
            | true =>
              have : i = k := by
                simp only [if_true] at hb'
                omega
              rw [this]
              simp only [if_true]
            | false =>
              have : cs.length - i = k + 1 := by
                simp only [Bool.false_eq_true, if_false] at hb'
                omega
              simp only [Bool.false_eq_true, if_false, this]
          refine q t H4 (e2.trans (e3.trans e4)) ((e2.trans e3).free nt) ?_
          rw [ht, ei]
          rfl
        · have hb' := of_decide_eq_false hb
          have hsec : ∃ m : Nat, m < cs.length ∧ (if w then ((i : Nat) : Int) else (cs.length : Int) - 1 - (i : Nat)) = (m : Int) ∧ (if w then m = i else m = cs.length - 1 - i) := by
            cases w with
            | true => exact ⟨i, hil, rfl, rfl⟩
            | false => exact ⟨cs.length - 1 - i, by omega, by simp only [Bool.false_eq_true, if_false]; omega, rfl⟩
          obtain ⟨m, hm1, hm2, hm3⟩ := hsec
          have hat : atI (cs.map V.int) (if w then ((i : Nat) : Int) else (cs.length : Int) - 1 - (i : Nat)) = some (.int (cs.getD m 0)) := by
            rw [hm2]
            exact atI_nat (getD_at hm1)
          have hgm : cs[m]? = some (cs.getD m 0) := by
            rw [List.getD_eq_getElem?_getD, List.getElem?_eq_getElem hm1]
            rfl
          walk_at "R"
          refine ⟨some (.int (if w then ((i : Nat) : Int) else (cs.length : Int) - 1 - (i : Nat))), ?_, e3, ?_⟩
          · congr 6
            cases w with
            | true =>
              simp only [if_true] at hm3 ⊢
              subst hm3
              rw [L2.sum_take hgm, Int.add_assoc]
            | false =>
              simp only [Bool.false_eq_true, if_false] at hm3 ⊢
              have em : cs.length - (i + 1) = m := by omega
              have em2 : m + 1 = cs.length - i := by omega
              rw [em, drop_cons hgm, List.sum_cons, em2, Int.add_assoc, Int.add_comm (cs.getD m 0)]
          · cases w with
            | true =>
              simp only [if_true] at hi hb' ⊢
              omega
            | false =>
              simp only [Bool.false_eq_true, if_false] at hi hb' ⊢
              omega
      · rintro σ H3 ⟨y6, rfl, e3, hi⟩
        rw [List.length_map, List.length_range] at hi
        exfalso
        cases w with
        | true =>
          simp only [if_true] at hi
          omega
        | false =>
          simp only [Bool.false_eq_true, if_false] at hi
          omega
    · refine w_ifS ?_
      walk_at "R"
      rw [wS_out]
      refine k_ifS (fun hb => ?_) (fun hb => ?_)
      · have hw : w = false := by simpa using hb
        subst hw
        walk_at "R"
        refine w_lcL ?_
        walk_at "R"
        refine k_lcL (SqL.of ho1) (fun dd hdd => ⟨fun i H' => Same H1 H' ∧ H' dd = some (.lst ((List.range i).map fun j => V.int ((cs.length : Int) - 1 - (j : Nat)))), ⟨same_new hdd, upd_same⟩, fun i H' _ hp1 => hp1.1.seq (SqL.of ho1), ?_, ?_⟩)
        · rintro i x H2 hx ⟨e2, hd2⟩
          unfold rgV at hx
          have hil : i < cs.length := by
            have := (List.getElem?_eq_some_iff.mp hx).1
            rw [List.length_map, List.length_range] at this
            omega
          rw [List.getElem?_map, List.getElem?_range (by omega)] at hx
          obtain rfl := (Option.some.inj hx).symm
          have hc2 := Same.seqT (e1.trans e2) hc
          walk_at "R"
          refine k_elt hd2 (by rw [List.length_map, List.length_range]; omega) ⟨Same.mut e2 hdd, ?_⟩
          rw [upd_same, List.range_succ, List.map_append, List.length_map]
          congr 3
          simp
        · rintro H2 ⟨e2, hd2⟩
          walk_at "R"
          refine hN _ _ ⟨dd, none, rfl, e1.trans e2, ?_⟩
          rw [hd2]
          unfold rgV
          rw [List.length_map, List.length_range]
          simp
      · have hw : w = true := by simpa using hb
        subst hw
        walk_at "R"
        refine hN _ _ ⟨o1, none, rfl, e1, ?_⟩
        rw [ho1]
        unfold rgV
        simp

theorem sc__law_passage_fault : FnScope ["channel", "headway", "one", "two", "number", "first", "second"] ["channel", "headway", "one", "two"] (defScope s__law_passage_fault) := ⟨rfl, rfl, rfl, by decide +kernel, rfl, by decide +kernel, by decide +kernel⟩
theorem ok__law_passage_fault {f : Addr} {fd : FuncData} (F : Fun K "_law_passage_fault" "_law_passage_fault" s__law_passage_fault f fd) (T : Txt K mg) {f__law_in_section : Addr} {fd__law_in_section : FuncData} (C__law_in_section : Cal P w K mg base "_law_in_section" f__law_in_section fd__law_in_section ["channel", "passage", "number"] (sp__law_in_section K) 1) : FnOk P w K mg base CX0 2 f fd ["channel", "headway", "one", "two"] (sp__law_passage_fault K) := by
  refine F.ok sc__law_passage_fault (fun vs H Q E h => ?_) (fun cdv A outer s H vs Q E hr h => ?_)
  · obtain ⟨c, p, p2, cs, hw, e1, e2, w1, w2, rfl, hc, hl, h1c, h1, h2, q⟩ := h
    rfl
  · obtain ⟨c, p, p2, cs, hw, e1, e2, w1, w2, rfl, hc, hl, h1c, h1, h2, q⟩ := h
    refine ⟨_, (pss_cons (ps_if (pt_cmpR (opEqK (K := K) rfl hr.units) (pe_ix (ixSeqK (K := K) rfl) (pv 2) pe_int (fun _ _ => rfl)) (pe_ix (ixSeqK (K := K) rfl) (pv 3) pe_int (fun _ _ => rfl)) (nomark _)) (pss_one (ps_ret (pe_ifExp ((pw_and (pt_cmpR opLt (pe_un un_neg (pv 1)) (pe_op op_sub (pe_ix (ixSeqK (K := K) rfl) (pv 2) pe_int (fun _ _ => rfl)) (pe_ix (ixSeqK (K := K) rfl) (pv 3) pe_int (fun _ _ => rfl))) (nomark _)) (pw_and1 (pt_cmpR opLt (pe_op op_sub (pe_ix (ixSeqK (K := K) rfl) (pv 2) pe_int (fun _ _ => rfl)) (pe_ix (ixSeqK (K := K) rfl) (pv 3) pe_int (fun _ _ => rfl))) (pv 1) (nomark _))))).pt pe_str pe_str))) pss_nil)
      (pss_cons (ps_for PassesOwn.never rfl (pi_range1 (by rfl) T.z_range (pa_cons (pe_callB (callLenK (K := K) rfl) (by rfl) T.z_len (by decide +kernel) (pa_cons (pv 0) pa_nil)) pa_nil)) (pg_name (i := 4) sc__law_passage_fault.nd rfl (by first | exact Or.inl rfl | exact Or.inr rfl)) (pss_cons (ps_set (i := 5) sc__law_passage_fault.nd rfl (by first | exact Or.inl rfl | exact Or.inr rfl) (pe_call C__law_in_section.G (hr.mono (by first | decide | omega)) (by rfl) C__law_in_section.m C__law_in_section.kp C__law_in_section.b .nil pass0 (pa_cons (pv 0) (pa_cons (pv 2) (pa_cons (pv 4) pa_nil)))))
      (pss_cons (ps_set (i := 6) sc__law_passage_fault.nd rfl (by first | exact Or.inl rfl | exact Or.inr rfl) (pe_call C__law_in_section.G (hr.mono (by first | decide | omega)) (by rfl) C__law_in_section.m C__law_in_section.kp C__law_in_section.b .nil pass0 (pa_cons (pv 0) (pa_cons (pv 3) (pa_cons (pv 4) pa_nil)))))
      (pss_one (ps_if (pt_cmpR opLt (pe_callB (callMax2 rfl) (by rfl) T.z_max (by decide +kernel) (pa_cons (pe_ix (ixSeqK (K := K) rfl) (pv 5) pe_int (fun _ _ => rfl)) (pa_cons (pe_ix (ixSeqK (K := K) rfl) (pv 6) pe_int (fun _ _ => rfl)) pa_nil))) (pe_callB (callMin2 rfl) (by rfl) T.z_min (by decide +kernel) (pa_cons (pe_ix (ixSeqK (K := K) rfl) (pv 5) pe_int (fun _ _ => rfl)) (pa_cons (pe_ix (ixSeqK (K := K) rfl) (pv 6) pe_int (fun _ _ => rfl)) pa_nil))) (nomark _)) (pss_one (ps_ret pe_str)) pss_nil)))))
      (pss_one (ps_ret pe_str)))), ?_⟩
    walk_at "RR"
    rw [wS_eq]
    refine k_ifS (fun hb => ?_) (fun hb => ?_)
    · have heq : w1 = w2 := by simpa using hb
      subst heq
      have q1 := q H (Same.refl H)
      rw [fault_same] at q1
      walk_at "R"
      refine k_and (fun hz => ?_) (fun hz => ?_)
      · have hz' := of_decide_eq_true hz
        walk_at "R"
        refine k_if (fun hy => ?_) (fun hy => ?_)
        · have hy' := of_decide_eq_true hy
          rw [if_pos ⟨hz', hy'⟩] at q1
          walk_at "R"
          exact q1
        · have hy' := of_decide_eq_false hy
          rw [if_neg (fun z => hy' z.2)] at q1
          walk_at "R"
          exact q1
      · have hz' := of_decide_eq_false hz
        rw [if_neg (fun z => hz' z.1)] at q1
        walk_at "R"
        exact q1
    · have hne : w1 ≠ w2 := by simpa using hb
      walk_at "R"
      rw [List.length_map]
      refine k_forR1 (fun i σ H' => ∃ y4 y5 y6, σ = [some (.ref c), some (.int hw), some (.ref p), some (.ref p2), y4, y5, y6] ∧ Same H H' ∧ ∀ k, k < i → ¬ ((sec cs e1 w1 k).1 < (sec cs e2 w2 k).2 ∧ (sec cs e2 w2 k).1 < (sec cs e1 w1 k).2)) (by omega) ⟨none, none, none, rfl, Same.refl H, fun k hk => absurd hk (Nat.not_lt_zero k)⟩ ?_ ?_
      · rintro i σ H3 hi ⟨y4, y5, y6, rfl, e3, hno⟩
        have hil : i < cs.length := by omega
        have hpos : 1 ≤ cs.getD i 0 := by
          rw [List.getD_eq_getElem?_getD, List.getElem?_eq_getElem hil]
          exact h1c _ (List.getElem_mem hil)
        walk_at "R"
        refine ⟨_, _, _, _, _, _, rfl, Same.seqT e3 hc, hl, Same.seqT e3 h1, hil, fun t4 H4 e4 nt4 ht4 => ?_⟩
        walk_at "R"
        refine ⟨_, _, _, _, _, _, rfl, Same.seqT (e3.trans e4) hc, hl, Same.seqT (e3.trans e4) h2, hil, fun t5 H5 e5 nt5 ht5 => ?_⟩
        have ht45 := e5 _ _ ht4
        walk_at "R"
        refine w_ifS ?_
        walk_at "R"
        have hs1 : (sec cs e1 w1 i).1 < (sec cs e1 w1 i).2 := by
          show chB cs e1 w1 i < chB cs e1 w1 i + cs.getD i 0
          omega
        have hs2 : (sec cs e2 w2 i).1 < (sec cs e2 w2 i).2 := by
          show chB cs e2 w2 i < chB cs e2 w2 i + cs.getD i 0
          omega
        refine k_ifS (fun hz => ?_) (fun hz => ?_)
        · have hz' := of_decide_eq_true hz
          have hm : Meet cs e1 w1 e2 w2 := ⟨i, hil, by split at hz' <;> split at hz' <;> omega, by split at hz' <;> split at hz' <;> omega⟩
          have q1 := q H5 (e3.trans (e4.trans e5))
          rw [fault_meet hne hm] at q1
          walk_at "R"
          exact q1
        · have hz' := of_decide_eq_false hz
          walk_at "R"
          refine ⟨_, _, _, rfl, e3.trans (e4.trans e5), fun k hk => ?_⟩
          by_cases hki : k = i
          · subst hki
            rintro ⟨z1, z2⟩
            split at hz' <;> split at hz' <;> omega
          · exact hno k (by omega)
      · rintro σ H3 ⟨y4, y5, y6, rfl, e3, hno⟩
        have q1 := q H3 e3
        rw [fault_clear hne (fun ⟨k, hk, z⟩ => hno k (by omega) z)] at q1
        walk_at "R"
        exact q1

theorem sc_next_try : FnScope ["channel", "headway", "passages", "passage", "enter", "other", "word"] ["channel", "headway", "passages", "passage"] (defScope s_next_try) := ⟨rfl, rfl, rfl, by decide +kernel, rfl, by decide +kernel, by decide +kernel⟩
theorem ok_next_try {f : Addr} {fd : FuncData} (F : Fun K "next_try" "next_try" s_next_try f fd) (T : Txt K mg) {f_fault_of : Addr} {fd_fault_of : FuncData} (C_fault_of : Cal P w K mg base "fault_of" f_fault_of fd_fault_of ["channel", "headway", "one", "two"] (sp_fault_of K) 4) : FnOk P w K mg base CX0 6 f fd ["channel", "headway", "passages", "passage"] (sp_next_try K) := by
  refine F.ok sc_next_try (fun vs H Q E h => ?_) (fun cdv A outer s H vs Q E hr h => ?_)
  · obtain ⟨c, a, p, cs, hw, e, w, us, ps, rfl, hc, hl, ha, hp, hq, q⟩ := h
    rfl
  · obtain ⟨c, a, p, cs, hw, e, w, us, ps, rfl, hc, hl, ha, hp, hq, q⟩ := h
    refine ⟨_, (pss_cons (ps_set (i := 4) sc_next_try.nd rfl (by first | exact Or.inl rfl | exact Or.inr rfl) (pe_ix (ixSeqK (K := K) rfl) (pv 3) pe_int (fun _ _ => rfl)))
      (pss_cons (ps_for PassesOwn.never rfl (piSeqK (K := K) rfl (pv 2)) (pg_name (i := 5) sc_next_try.nd rfl (by first | exact Or.inl rfl | exact Or.inr rfl)) (pss_cons (ps_set (i := 6) sc_next_try.nd rfl (by first | exact Or.inl rfl | exact Or.inr rfl) (pe_call C_fault_of.G (hr.mono (by first | decide | omega)) (by rfl) C_fault_of.m C_fault_of.kp C_fault_of.b .nil pass0 (pa_cons (pv 0) (pa_cons (pv 1) (pa_cons (pv 3) (pa_cons (pv 5) pa_nil))))))
      (pss_cons (ps_if (pt_cmpR (opEqK (K := K) rfl hr.units) (pv 6) pe_str (nomark _)) (pss_one (ps_ret (pe_op (opAddK (K := K) rfl) (pe_ix (ixSeqK (K := K) rfl) (pv 5) pe_int (fun _ _ => rfl)) (pv 1)))) pss_nil)
      (pss_one (ps_if (pt_cmpR (opEqK (K := K) rfl hr.units) (pv 6) pe_str (nomark _)) (pss_one (ps_ret (pe_op (opAddK (K := K) rfl) (pv 4) pe_int))) pss_nil)))))
      (pss_one (ps_ret (pv 4))))), ?_⟩
    walk_at "R"
    refine w_forL ?_
    walk_at "R"
    refine k_forL (fun i σ H' => ∃ y5 y6, σ = [some (.ref c), some (.int hw), some (.ref a), some (.ref p), some (.int e), y5, y6] ∧ Same H H' ∧ ∀ j s, j < i → ps[j]? = some s → fault cs hw e w s.1 s.2 = none) ha ⟨none, none, rfl, Same.refl H, fun j s hj => absurd hj (Nat.not_lt_zero j)⟩ ?_ ?_ ?_
    · rintro i σ H' _ ⟨_, _, rfl, e1, _⟩
      exact e1.seq ha
    · rintro i x σ H1 hx ⟨y5, y6, rfl, e1, hno⟩
      obtain ⟨⟨pe, pw⟩, hs, r, rfl, hr⟩ := paired_at hp hx
      have hm := List.mem_of_getElem? hs
      walk_at "R"
      refine ⟨_, _, _, _, _, _, _, _, _, rfl, Same.seqT e1 hc, hl, Same.seqT e1 hq, Same.seqT e1 hr, fun H2 e2 => ?_⟩
      have hr2 := Same.seqT (e1.trans e2) hr
      walk_at "R"
      refine w_ifS ?_
      walk_at "R"
      cases hf : fault cs hw e w pe pw with
      | none =>
        dsimp only [faultV]
        walk_at "RR"
        refine ⟨_, _, rfl, e1.trans e2, fun j s hj hsj => ?_⟩
        by_cases hji : j = i
        · subst hji
          rw [hs] at hsj
          obtain rfl := Option.some.inj hsj
          exact hf
        · exact hno j s (by omega) hsj
      | some b =>
        cases b with
        | false =>
          -- close
          have hcl : w = pw ∧ -hw < e - pe ∧ e - pe < hw := by
            by_cases hww : w = pw
            · subst hww
              refine ⟨rfl, ?_⟩
              rw [fault_same] at hf
              split at hf
              · assumption
              · cases hf
            · exfalso
              by_cases hm : Meet cs e w pe pw
              · rw [fault_meet hww hm] at hf
                cases hf
              · rw [fault_clear hww hm] at hf
                cases hf
          obtain ⟨rfl, hc1, hc2⟩ := hcl
          have hfv : faultV (some false) = .str "close" := rfl
          rw [hfv]
          walk_at "R"
          refine k_ifS (fun z => ?_) (fun z => ?_)
          · walk_at "R"
            refine q _ H2 (e1.trans e2) (by omega) (fun z => absurd z (by omega)) (fun t h1 h2 => ⟨_, hm, ?_⟩)
            rw [fault_same, if_pos (by simp only; omega)]
            exact fun z => nomatch z
          · exfalso
            revert z
            decide +kernel
        | true =>
          have hfv : faultV (some true) = .str "meeting" := rfl
          rw [hfv]
          walk_at "R"
          refine k_ifS (fun z => ?_) (fun z => ?_)
          · exfalso
            revert z
            decide +kernel
          · walk_at "RR"
            refine k_ifS (fun z => ?_) (fun z => ?_)
            · walk_at "R"
              refine q _ H2 (e1.trans e2) (by omega) (fun z => absurd z (by omega)) (fun t h1 h2 => ⟨_, hm, ?_⟩)
              obtain rfl : t = e := by omega
              rw [hf]
              exact fun z => nomatch z
            · exfalso
              revert z
              decide +kernel
    · rintro σ H1 ⟨y5, y6, rfl, e1, hno⟩
      walk_at "R"
      refine q _ H1 e1 (Int.le_refl _) (fun _ => ?_) (fun t h1 h2 => by omega)
      rintro ⟨s, hs, hf⟩
      obtain ⟨j, hj⟩ := List.getElem?_of_mem hs
      exact hf (hno j s (by rw [paired_len hp]; exact (List.getElem?_eq_some_iff.mp hj).1) hj)

theorem sc_next_passage : FnScope ["channel", "headway", "passages", "way", "start", "enter", "later"] ["channel", "headway", "passages", "way", "start"] (defScope s_next_passage) := ⟨rfl, rfl, rfl, by decide +kernel, rfl, by decide +kernel, by decide +kernel⟩
theorem ok_next_passage {f : Addr} {fd : FuncData} (F : Fun K "next_passage" "next_passage" s_next_passage f fd) (T : Txt K mg) {f_next_try : Addr} {fd_next_try : FuncData} (C_next_try : Cal P w K mg base "next_try" f_next_try fd_next_try ["channel", "headway", "passages", "passage"] (sp_next_try K) 6) : FnOk P w K mg base CX0 7 f fd ["channel", "headway", "passages", "way", "start"] (sp_next_passage K) := by
  refine F.ok sc_next_passage (fun vs H Q E h => ?_) (fun cdv A outer s H vs Q E hr h => ?_)
  · obtain ⟨c, a, cs, hw, s, B, w, us, ps, rfl, hc, hl, ha, hp, hB, q⟩ := h
    rfl
  · obtain ⟨c, a, cs, hw, s, B, w, us, ps, rfl, hc, hl, ha, hp, hB, q⟩ := h
    refine ⟨_, (pss_cons (ps_set (i := 5) sc_next_passage.nd rfl (by first | exact Or.inl rfl | exact Or.inr rfl) (pv 4))
      (pss_cons (ps_set (i := 6) sc_next_passage.nd rfl (by first | exact Or.inl rfl | exact Or.inr rfl) (pe_call C_next_try.G (hr.mono (by first | decide | omega)) (by rfl) C_next_try.m C_next_try.kp C_next_try.b .nil pass0 (pa_cons (pv 0) (pa_cons (pv 1) (pa_cons (pv 2) (pa_cons (pe_tup (pa_cons (pv 5) (pa_cons (pv 3) pa_nil))) pa_nil))))))
      (pss_cons (ps_while PassesOwn.never (pt_cmpR op_gt (pv 6) (pv 5) (nomark _)) (pss_cons (ps_set (i := 5) sc_next_passage.nd rfl (by first | exact Or.inl rfl | exact Or.inr rfl) (pv 6))
      (pss_one (ps_set (i := 6) sc_next_passage.nd rfl (by first | exact Or.inl rfl | exact Or.inr rfl) (pe_call C_next_try.G (hr.mono (by first | decide | omega)) (by rfl) C_next_try.m C_next_try.kp C_next_try.b .nil pass0 (pa_cons (pv 0) (pa_cons (pv 1) (pa_cons (pv 2) (pa_cons (pe_tup (pa_cons (pv 5) (pa_cons (pv 3) pa_nil))) pa_nil)))))))))
      (pss_one (ps_ret (pv 5)))))), ?_⟩
    walk_at "R"
    refine k_tup (by simp) (fun t1 H1 nt1 e1 ht1 => ?_)
    walk_at "R"
    refine ⟨_, _, _, _, _, _, _, _, _, rfl, Same.seqT e1 hc, hl, e1.seq ha, paired_map (fun _ _ => PsT.same e1) hp, SqT.of ht1, fun r H2 e2 hr1 hr2 hr3 => ?_⟩
    walk_at "R"
    refine w_whileW (fun m σ H' => ∃ en la, m = (B - en).toNat ∧ σ = [some (.ref c), some (.int hw), some (.ref a), some (.str (wS w)), some (.int s), some (.int en), some (.int la)] ∧ Same H H' ∧ s ≤ en ∧ (∀ t, s ≤ t → t < en → Bad cs hw ps w t) ∧ en ≤ la ∧ (la = en → ¬ Bad cs hw ps w en) ∧ ∀ t, en ≤ t → t < la → Bad cs hw ps w t) ⟨s, r, rfl, rfl, e1.trans e2, Int.le_refl _, (fun t h1 h2 => by omega), hr1, hr2, hr3⟩ ?_
    rintro m σ H3 ⟨en, la, rfl, rfl, e3, h1, h2, h3, h4, h5⟩
    walk_at "R"
    refine k_while (fun z => ?_) (fun z => ?_)
    · have hz := of_decide_eq_true z
      walk_at "R"
      refine k_tup (by simp) (fun t4 H4 nt4 e4 ht4 => ?_)
      walk_at "R"
      refine ⟨_, _, _, _, _, _, _, _, _, rfl, Same.seqT (e3.trans e4) hc, hl, (e3.trans e4).seq ha, paired_map (fun _ _ => PsT.same (e3.trans e4)) hp, SqT.of ht4, fun r5 H5 e5 g1 g2 g3 => ?_⟩
      walk_at "R"
      have hlt : en < B := by
        by_cases q : en < B
        · exact q
        · exact absurd (h5 en (Int.le_refl _) hz) (hB en (by omega))
      refine ⟨_, ?_, la, r5, rfl, rfl, e3.trans (e4.trans e5), by omega, fun t z1 z2 => ?_, g1, g2, g3⟩
      · omega
      · by_cases q : t < en
        · exact h2 t z1 q
        · exact h5 t (by omega) z2
    · have hz := of_decide_eq_false z
      walk_at "R"
      exact q en H3 e3 h1 (h4 (by omega)) h2

theorem sc_law : FnScope ["script", "pool", "channel", "passages", "headway", "way", "start", "due", "one", "handed"] ["script"] (defScope s_law) := ⟨rfl, rfl, rfl, by decide +kernel, rfl, by decide +kernel, by decide +kernel⟩
theorem ok_law {f : Addr} {fd : FuncData} (F : Fun K "law" "law" s_law f fd) (T : Txt K mg) {f__law_pool : Addr} {fd__law_pool : FuncData} (C__law_pool : Cal P w K mg base "_law_pool" f__law_pool fd__law_pool ["script"] (sp__law_pool K) 1) {f__law_channel : Addr} {fd__law_channel : FuncData} (C__law_channel : Cal P w K mg base "_law_channel" f__law_channel fd__law_channel ["pool"] (sp__law_channel K) 3) {f__law_passages : Addr} {fd__law_passages : FuncData} (C__law_passages : Cal P w K mg base "_law_passages" f__law_passages fd__law_passages ["pool", "most"] (sp__law_passages K) 3) {f__law_draw : Addr} {fd__law_draw : FuncData} (C__law_draw : Cal P w K mg base "_law_draw" f__law_draw fd__law_draw ["pool", "many"] (sp__law_draw K) 2) {f__law_passage_fault : Addr} {fd__law_passage_fault : FuncData} (C__law_passage_fault : Cal P w K mg base "_law_passage_fault" f__law_passage_fault fd__law_passage_fault ["channel", "headway", "one", "two"] (sp__law_passage_fault K) 2) {f__law_same : Addr} {fd__law_same : FuncData} (C__law_same : Cal P w K mg base "_law_same" f__law_same fd__law_same ["actual", "due"] (sp__law_same_5 K) 6) {f_next_passage : Addr} {fd_next_passage : FuncData} (C_next_passage : Cal P w K mg base "next_passage" f_next_passage fd_next_passage ["channel", "headway", "passages", "way", "start"] (sp_next_passage K) 7) : FnOk P w K mg base CX0 14 f fd ["script"] (sp_law K) := by
  refine F.ok sc_law (fun vs H Q E h => ?_) (fun cdv A outer s H vs Q E hr h => ?_)
  · obtain ⟨a, ns, rfl, hS, hn, q⟩ := h
    rfl
  · obtain ⟨a, ns, rfl, hS, hn, q⟩ := h
    refine ⟨_, (pss_cons (ps_set (i := 1) sc_law.nd rfl (by first | exact Or.inl rfl | exact Or.inr rfl) (pe_call C__law_pool.G (hr.mono (by first | decide | omega)) (by rfl) C__law_pool.m C__law_pool.kp C__law_pool.b .nil pass0 (pa_cons (pv 0) pa_nil)))
      (pss_cons (ps_set (i := 2) sc_law.nd rfl (by first | exact Or.inl rfl | exact Or.inr rfl) (pe_call C__law_channel.G (hr.mono (by first | decide | omega)) (by rfl) C__law_channel.m C__law_channel.kp C__law_channel.b .nil pass0 (pa_cons (pv 1) pa_nil)))
      (pss_cons (ps_set (i := 3) sc_law.nd rfl (by first | exact Or.inl rfl | exact Or.inr rfl) (pe_call C__law_passages.G (hr.mono (by first | decide | omega)) (by rfl) C__law_passages.m C__law_passages.kp C__law_passages.b .nil pass0 (pa_cons (pv 1) (pa_cons pe_int pa_nil))))
      (pss_cons (ps_set (i := 4) sc_law.nd rfl (by first | exact Or.inl rfl | exact Or.inr rfl) (pe_op (opAddK (K := K) rfl) pe_int (pe_call C__law_draw.G (hr.mono (by first | decide | omega)) (by rfl) C__law_draw.m C__law_draw.kp C__law_draw.b .nil pass0 (pa_cons (pv 1) (pa_cons pe_int pa_nil)))))
      (pss_cons (ps_for PassesOwn.never rfl (piSeqK (K := K) rfl (pe_tup (pa_cons pe_str (pa_cons pe_str pa_nil)))) (pg_name (i := 5) sc_law.nd rfl (by first | exact Or.inl rfl | exact Or.inr rfl)) (pss_cons (ps_set (i := 6) sc_law.nd rfl (by first | exact Or.inl rfl | exact Or.inr rfl) (pe_call C__law_draw.G (hr.mono (by first | decide | omega)) (by rfl) C__law_draw.m C__law_draw.kp C__law_draw.b .nil pass0 (pa_cons (pv 1) (pa_cons (pe_ix (ixSeqK (K := K) rfl) (pe_tup (pa_cons pe_int (pa_cons pe_int pa_nil))) (pe_call C__law_draw.G (hr.mono (by first | decide | omega)) (by rfl) C__law_draw.m C__law_draw.kp C__law_draw.b .nil pass0 (pa_cons (pv 1) (pa_cons pe_int pa_nil))) (fun _ _ => rfl)) pa_nil))))
      (pss_cons (ps_set (i := 7) sc_law.nd rfl (by first | exact Or.inl rfl | exact Or.inr rfl) (pv 6))
      (pss_cons (ps_while PassesOwn.never (pt_cmpR op_gt (pe_callB (callLenK (K := K) rfl) (by rfl) T.z_len (by decide +kernel) (pa_cons (pe_lc (own := [("one", 8)]) (by rfl) sc_law.nd (piSeqK (K := K) rfl (pv 3)) (blkOk_by (own := [("one", 8)]) (N := ["script", "pool", "channel", "passages", "headway", "way", "start", "due", "one", "handed"]) (sc := defScope s_law) (by decide +kernel)) (fun _ _ _ _ _ => (pg_name (i := 8) sc_law.nd rfl (by first | exact Or.inl rfl | exact Or.inr rfl))) (fun _ _ _ _ _ => (pts_one (pt_cmpR (opNeK (K := K) rfl hr.units) (pe_call C__law_passage_fault.G (hr.mono (by first | decide | omega)) (by rfl) C__law_passage_fault.m C__law_passage_fault.kp C__law_passage_fault.b .nil pass0 (pa_cons (pv 2) (pa_cons (pv 4) (pa_cons (pv 8) (pa_cons (pe_tup (pa_cons (pv 7) (pa_cons (pv 5) pa_nil))) pa_nil))))) pe_str (nomark _)))) (fun _ _ _ _ _ => (pv 8))) pa_nil)) pe_int (nomark _)) (pss_one (ps_set (i := 7) sc_law.nd rfl (by first | exact Or.inl rfl | exact Or.inr rfl) (pe_op (opAddK (K := K) rfl) (pv 7) pe_int))))
      (pss_cons (ps_set (i := 9) sc_law.nd rfl (by first | exact Or.inl rfl | exact Or.inr rfl) (pe_callTy (callListOfK (K := K) rfl) (by rfl) T.z_list (by decide +kernel) (pa_cons (pv 3) pa_nil)))
      (pss_one (ps_if ((pw_or (pt_not (pt_val (pe_call C__law_same.G (hr.mono (by first | decide | omega)) (by rfl) C__law_same.m C__law_same.kp C__law_same.b .nil pass0 (pa_cons (pe_call C_next_passage.G (hr.mono (by first | decide | omega)) (by rfl) C_next_passage.m C_next_passage.kp C_next_passage.b .nil pass0 (pa_cons (pv 2) (pa_cons (pv 4) (pa_cons (pv 9) (pa_cons (pv 5) (pa_cons (pv 6) pa_nil)))))) (pa_cons (pv 7) pa_nil))))) (pw_or1 (pt_cmpR (opNeK (K := K) rfl hr.units) (pv 9) (pv 3) (nomark _))))).pt (pss_one (ps_ret pe_bl)) pss_nil)))))))
      (pss_one (ps_ret pe_bl))))))), ?_⟩
    walk_at "R"
    refine ⟨_, _, rfl, hS, hn, fun p l H0 e0 np nl hP0 => ?_⟩
    walk_at "R"
    refine ⟨_, l, rfl, hP0, fun c cs H1 e1 hP1 hc1 hc2 hc3 hc4 => ?_⟩
    walk_at "R"
    refine ⟨_, l, _, rfl, by omega, by omega, hP1, fun pa us ps H2 e2 hP2 npa hpa hps hpl hpb => ?_⟩
    have hcH2 := e2.seqT hP1 hc1
    have pap : pa ≠ p := hP1.np npa
    walk_at "R"
    refine ⟨_, l, _, rfl, by omega, by omega, hP2, fun hw H3 hw0 hw1 e3 hP3 => ?_⟩
    have hc3' := e3.seqT hP2 hcH2
    have hpa3 := e3 _ _ pap hpa
    have hps3 : Paired (PsT K H3) us ps := paired_map (fun _ _ => PsT.but e3 hP2) hps
    have lus := paired_len hps
    walk_at "R"
    refine w_forT ?_
    walk_at "R"
    refine k_tup (by simp) (fun t4 H4 nt4 e4 ht4 => ?_)
    refine k_forT (fun i σ H' => ∃ y5 y6 y7 y8 y9, σ = [some (.ref a), some (.ref p), some (.ref c), some (.ref pa), some (.int (1 + hw)), y5, y6, y7, y8, y9] ∧ PoolAt H' p l ∧ SqT K H' t4 [.str "in", .str "out"] ∧ SqT K H' c (cs.map V.int) ∧ H' pa = some (.lst us) ∧ Paired (PsT K H') us ps) (SqT.of ht4) ⟨none, none, none, none, none, rfl, hP3.same e4, SqT.of ht4, Same.seqT e4 hc3', e4 _ _ hpa3, paired_map (fun _ _ => PsT.same e4) hps3⟩ ?_ ?_ ?_
    · rintro i σ H' _ ⟨_, _, _, _, _, rfl, _, h, _⟩
      exact h
    · rintro i x σ H5 hx ⟨y5, y6, y7, y8, y9, rfl, hP5, ht5, hc5, hpa5, hps5⟩
      obtain ⟨w, rfl⟩ : ∃ w : Bool, x = .str (wS w) := by
        match i, hx with
        | 0, hx => exact ⟨true, (Option.some.inj hx).symm⟩
        | 1, hx => exact ⟨false, (Option.some.inj hx).symm⟩
        | i + 2, hx => cases hx
      walk_at "R"
      refine k_tup (by simp) (fun t6 H6 nt6 e6 ht6 => ?_)
      have hP6 := hP5.same e6
      walk_at "R"
      refine ⟨_, l, _, rfl, by omega, by omega, hP6, fun d H7 d0 d1 e7 hP7 => ?_⟩
      have ht7 : SqT K H7 t6 _ := e7.seqT hP6 (SqT.of ht6)
      obtain ⟨mv, hm1, hm2⟩ := at2 (x := .int 4) (y := .int 60) d0 d1
      obtain ⟨m, rfl, hm3⟩ : ∃ m : Int, mv = .int m ∧ 0 < m ∧ m ≤ 60 := by
        rcases hm2 with e | e
        · exact ⟨4, e, by omega⟩
        · exact ⟨60, e, by omega⟩
      walk_at "R"
      refine ⟨_, l, _, rfl, by omega, by omega, hP7, fun s H8 s0 s1 e8 hP8 => ?_⟩
      have b58 : But p H5 H8 := ((But.of e6).trans e7).trans e8
      have hc8 := b58.seqT hP5 hc5
      have ht8 := b58.seqT hP5 ht5
      have hpa8 := b58 _ _ pap hpa5
      have hps8 : Paired (PsT K H8) us ps := paired_map (fun _ _ => PsT.but b58 hP5) hps5
      have hB : ∀ t, 1000 ≤ t → ¬ Bad cs (1 + hw) ps w t := fun t ht => not_bad hc4 hc3 (by omega) hpb ht
      walk_at "R"
      refine w_whileW (fun m σ H' => ∃ du y8, m = (1000 - du).toNat ∧ σ = [some (.ref a), some (.ref p), some (.ref c), some (.ref pa), some (.int (1 + hw)), some (.str (wS w)), some (.int s), some (.int du), y8, y9] ∧ Same H8 H' ∧ s ≤ du ∧ ∀ t, s ≤ t → t < du → Bad cs (1 + hw) ps w t) ⟨s, y8, rfl, rfl, Same.refl _, Int.le_refl _, fun t h1 h2 => by omega⟩ ?_
      rintro m σ H9 ⟨du, y8, rfl, rfl, e9, hsd, hbad⟩
      have hpa9 := e9 _ _ hpa8
      walk_at "R"
      refine w_lcL ?_
      walk_at "R"
      refine k_lcL (SqL.of hpa9) (fun dd hdd => ⟨fun i H' => ∃ acc : List V, H' dd = some (.lst acc) ∧ Same H9 H' ∧ acc.length ≤ i ∧ (acc = [] ↔ ∀ j s, j < i → ps[j]? = some s → fault cs (1 + hw) du w s.1 s.2 = none), ?_, ?_, ?_, ?_⟩)
      · exact ⟨[], upd_same, same_new hdd, Nat.le_refl _, by simp⟩
      · rintro i H' _ ⟨acc, h1, h2, _⟩
        exact h2.seq (SqL.of hpa9)
      · rintro i x HA hx ⟨acc, h1, h2, h3, h4⟩
        obtain ⟨⟨pe, pw⟩, hs, r, rfl, hr⟩ := paired_at hps8 hx
        have hi : i < ps.length := (List.getElem?_eq_some_iff.mp hs).1
        walk_at "R"
        refine k_tup (by simp) (fun tb HB nb eB hb => ?_)
        walk_at "R"
        refine ⟨_, _, _, _, _, _, _, _, _, rfl, Same.seqT (e9.trans (h2.trans eB)) hc8, by omega, (fun x hx => (hc4 x hx).1), Same.seqT (e9.trans (h2.trans eB)) hr, SqT.of hb, fun HC eC => ?_⟩
        have hsym : fault cs (1 + hw) pe pw du w = fault cs (1 + hw) du w pe pw := fault_symm
        rw [hsym]
        have h1C := eC _ _ (eB _ _ h1)
        cases hf : fault cs (1 + hw) du w pe pw with
        | none =>
          dsimp only [faultL]
          walk_at "R"
          refine k_tst (fun z => ?_) (fun z => ?_)
          · exfalso
            revert z
            decide +kernel
          · refine ⟨acc, h1C, h2.trans (eB.trans eC), by omega, ⟨fun z j s hj hsj => ?_, fun z => h4.mpr fun j s hj => z j s (by omega)⟩⟩
            by_cases hji : j = i
            · subst hji
              rw [hs] at hsj
              obtain rfl := Option.some.inj hsj
              exact hf
            · exact h4.mp z j s (by omega) hsj
        | some b =>
          have hfv : ∃ z : Str, faultL (some b) = .str z ∧ decide (z = "") = false := by
            cases b
            · exact ⟨"close", rfl, by decide +kernel⟩
            · exact ⟨"meeting", rfl, by decide +kernel⟩
          obtain ⟨z, hz1, hz2⟩ := hfv
          rw [hz1]
          walk_at "R"
          refine k_tst (fun _ => ?_) (fun z => ?_)
          · walk_at "R"
            refine k_elt h1C (by omega) ⟨_, upd_same, Same.mut (h2.trans (eB.trans eC)) hdd, by rw [List.length_append, List.length_singleton]; omega, ⟨fun z => absurd z (by simp), fun z => ?_⟩⟩
            have := z i _ (Nat.lt_succ_self i) hs
            rw [hf] at this
            cases this
          · rw [hz2] at z
            cases z
      · rintro HA ⟨acc, h1, h2, h3, h4⟩
        have hbadiff : acc = [] ↔ ¬ Bad cs (1 + hw) ps w du := by
          rw [h4]
          constructor
          · rintro z ⟨s, hs, hf⟩
            obtain ⟨j, hj⟩ := List.getElem?_of_mem hs
            exact hf (z j s (by have := (List.getElem?_eq_some_iff.mp hj).1; omega) hj)
          · intro z j s _ hs
            cases hf : fault cs (1 + hw) du w s.1 s.2 with
            | none => rfl
            | some b => exact absurd ⟨s, List.mem_of_getElem? hs, by rw [hf]; exact fun z => nomatch z⟩ z
        walk_at "R"
        refine k_while (fun z => ?_) (fun z => ?_)
        · have hpos := of_decide_eq_true z
          have hbd : Bad cs (1 + hw) ps w du := Classical.byContradiction fun z => by
            have := hbadiff.mpr z
            rw [this] at hpos
            exact absurd hpos (by decide)
          have hlt : du < 1000 := by
            by_cases q : du < 1000
            · exact q
            · exact absurd hbd (hB du (by omega))
          walk_at "R"
          refine ⟨_, ?_, du + 1, _, rfl, rfl, e9.trans h2, by omega, fun t h1 h2 => ?_⟩
          · omega
          · by_cases htd : t = du
            · subst htd
              exact hbd
            · exact hbad t h1 (by omega)
        · have hz := of_decide_eq_false z
          have hacc : acc = [] := List.eq_nil_of_length_eq_zero (by omega)
          have hnb := hbadiff.mp hacc
          have hpaA := h2 _ _ hpa9
          walk_at "R"
          refine o_listL (SqL.of hpaA) (fun hh HB nh eB hhB => ?_)
          have hcB := Same.seqT (e9.trans (h2.trans eB)) hc8
          have hpsB : Paired (PsT K HB) us ps := paired_map (fun _ _ => PsT.same (e9.trans (h2.trans eB))) hps8
          walk_at "R"
          refine w_ifS ?_
          walk_at "R"
          refine ⟨_, _, _, _, _, 1000, _, _, _, rfl, hcB, by omega, SqL.of hhB, hpsB, hB, fun r HC eC hr1 hr2 hr3 => ?_⟩
          have hrd : r = du := by
            have a1 : ¬ r < du := fun z => hr2 (hbad r hr1 z)
            have a2 : ¬ du < r := fun z => hnb (hr3 du hsd z)
            omega
          subst hrd
          walk_at "R"
          refine ⟨_, _, .int r, .int r, rfl, .int r, .int r, trivial, fun b HD eD hb => ?_⟩
          have hb1 : b = true := hb.mpr rfl
          subst hb1
          have hpsD : Paired (PsT K HD) us ps := paired_map (fun _ _ => PsT.same (eC.trans eD)) hpsB
          walk_at "R"
          refine o_neData (d := .list (ps.map psD)) (.lst (SqL.of (eD _ _ (eC _ _ hhB))) (dp_list (F := PsT K HD) (g := psD) (fun _ _ h => PsT.dp h) hpsD)) (.lst (SqL.of (eD _ _ (eC _ _ (eB _ _ hpaA)))) (dp_list (F := PsT K HD) (g := psD) (fun _ _ h => PsT.dp h) hpsD)) (psD_shaped ps) ?_
          walk_at "R"
          have e8D : Same H8 HD := e9.trans (h2.trans (eB.trans (eC.trans eD)))
          exact ⟨_, _, _, _, _, rfl, hP8.same e8D, Same.seqT e8D ht8, Same.seqT e8D hc8, e8D _ _ hpa8, hpsD⟩
    · rintro σ H5 ⟨y5, y6, y7, y8, y9, rfl, hP5, ht5, hc5, hpa5, hps5⟩
      walk_at "R"
      exact q _

end
theorem all_mk {l : PySem.W.OpenLaw} {w : World} {K : PySem.W.Frag} {h : Heap} {mg : Str → Option Value} {fa : Addr} (X : K.In h) (G : h.Ns mainGlobals mg) (hfa : mg "law" = some (.ref fa))
    {od__law_same an__law_same : Option Addr} {sl__law_same : Array (Option Value)} {oc__law_same kV__law_same dc__law_same pm__law_same cd__law_same ct__law_same : Value} {f__law_same : Addr}
    {od__law_pool an__law_pool : Option Addr} {sl__law_pool : Array (Option Value)} {oc__law_pool kV__law_pool dc__law_pool pm__law_pool cd__law_pool ct__law_pool : Value} {f__law_pool : Addr}
    {od__law_spread an__law_spread : Option Addr} {sl__law_spread : Array (Option Value)} {oc__law_spread kV__law_spread dc__law_spread pm__law_spread cd__law_spread ct__law_spread : Value} {f__law_spread : Addr}
    {od__law_draw an__law_draw : Option Addr} {sl__law_draw : Array (Option Value)} {oc__law_draw kV__law_draw dc__law_draw pm__law_draw cd__law_draw ct__law_draw : Value} {f__law_draw : Addr}
    {od_channel_spells an_channel_spells : Option Addr} {sl_channel_spells : Array (Option Value)} {oc_channel_spells kV_channel_spells dc_channel_spells pm_channel_spells cd_channel_spells ct_channel_spells : Value} {f_channel_spells : Addr}
    {od_is_meeting an_is_meeting : Option Addr} {sl_is_meeting : Array (Option Value)} {oc_is_meeting kV_is_meeting dc_is_meeting pm_is_meeting cd_is_meeting ct_is_meeting : Value} {f_is_meeting : Addr}
    {od_fault_of an_fault_of : Option Addr} {sl_fault_of : Array (Option Value)} {oc_fault_of kV_fault_of dc_fault_of pm_fault_of cd_fault_of ct_fault_of : Value} {f_fault_of : Addr}
    {od__law_channel an__law_channel : Option Addr} {sl__law_channel : Array (Option Value)} {oc__law_channel kV__law_channel dc__law_channel pm__law_channel cd__law_channel ct__law_channel : Value} {f__law_channel : Addr}
    {od__law_passages an__law_passages : Option Addr} {sl__law_passages : Array (Option Value)} {oc__law_passages kV__law_passages dc__law_passages pm__law_passages cd__law_passages ct__law_passages : Value} {f__law_passages : Addr}
    {od__law_in_section an__law_in_section : Option Addr} {sl__law_in_section : Array (Option Value)} {oc__law_in_section kV__law_in_section dc__law_in_section pm__law_in_section cd__law_in_section ct__law_in_section : Value} {f__law_in_section : Addr}
    {od__law_passage_fault an__law_passage_fault : Option Addr} {sl__law_passage_fault : Array (Option Value)} {oc__law_passage_fault kV__law_passage_fault dc__law_passage_fault pm__law_passage_fault cd__law_passage_fault ct__law_passage_fault : Value} {f__law_passage_fault : Addr}
    {od_next_try an_next_try : Option Addr} {sl_next_try : Array (Option Value)} {oc_next_try kV_next_try dc_next_try pm_next_try cd_next_try ct_next_try : Value} {f_next_try : Addr}
    {od_next_passage an_next_passage : Option Addr} {sl_next_passage : Array (Option Value)} {oc_next_passage kV_next_passage dc_next_passage pm_next_passage cd_next_passage ct_next_passage : Value} {f_next_passage : Addr}
    {od_law an_law : Option Addr} {sl_law : Array (Option Value)} {oc_law kV_law dc_law pm_law cd_law ct_law : Value} {f_law : Addr}
    (a__law_same : PySem.W.nsIn K mainGlobals "_law_same" = some (some (.ref f__law_same)))
    (l__law_same : K.lookup f__law_same = some ⟨oc__law_same, od__law_same, .func (PySem.W.fnOf "_law_same" "_law_same" (defArgs s__law_same) (defBody s__law_same) (defScope s__law_same) .none kV__law_same dc__law_same pm__law_same an__law_same cd__law_same ct__law_same), sl__law_same⟩)
    (c__law_same : PySem.W.codeIn K cd__law_same "_law_same" = true)
    (k__law_same : PySem.W.keepIn K (.ref f__law_same) = true)
    (a__law_pool : PySem.W.nsIn K mainGlobals "_law_pool" = some (some (.ref f__law_pool)))
    (l__law_pool : K.lookup f__law_pool = some ⟨oc__law_pool, od__law_pool, .func (PySem.W.fnOf "_law_pool" "_law_pool" (defArgs s__law_pool) (defBody s__law_pool) (defScope s__law_pool) .none kV__law_pool dc__law_pool pm__law_pool an__law_pool cd__law_pool ct__law_pool), sl__law_pool⟩)
    (c__law_pool : PySem.W.codeIn K cd__law_pool "_law_pool" = true)
    (k__law_pool : PySem.W.keepIn K (.ref f__law_pool) = true)
    (a__law_spread : PySem.W.nsIn K mainGlobals "_law_spread" = some (some (.ref f__law_spread)))
    (l__law_spread : K.lookup f__law_spread = some ⟨oc__law_spread, od__law_spread, .func (PySem.W.fnOf "_law_spread" "_law_spread" (defArgs s__law_spread) (defBody s__law_spread) (defScope s__law_spread) .none kV__law_spread dc__law_spread pm__law_spread an__law_spread cd__law_spread ct__law_spread), sl__law_spread⟩)
    (c__law_spread : PySem.W.codeIn K cd__law_spread "_law_spread" = true)
    (k__law_spread : PySem.W.keepIn K (.ref f__law_spread) = true)
    (a__law_draw : PySem.W.nsIn K mainGlobals "_law_draw" = some (some (.ref f__law_draw)))
    (l__law_draw : K.lookup f__law_draw = some ⟨oc__law_draw, od__law_draw, .func (PySem.W.fnOf "_law_draw" "_law_draw" (defArgs s__law_draw) (defBody s__law_draw) (defScope s__law_draw) .none kV__law_draw dc__law_draw pm__law_draw an__law_draw cd__law_draw ct__law_draw), sl__law_draw⟩)
    (c__law_draw : PySem.W.codeIn K cd__law_draw "_law_draw" = true)
    (k__law_draw : PySem.W.keepIn K (.ref f__law_draw) = true)
    (a_channel_spells : PySem.W.nsIn K mainGlobals "channel_spells" = some (some (.ref f_channel_spells)))
    (l_channel_spells : K.lookup f_channel_spells = some ⟨oc_channel_spells, od_channel_spells, .func (PySem.W.fnOf "channel_spells" "channel_spells" (defArgs s_channel_spells) (defBody s_channel_spells) (defScope s_channel_spells) .none kV_channel_spells dc_channel_spells pm_channel_spells an_channel_spells cd_channel_spells ct_channel_spells), sl_channel_spells⟩)
    (c_channel_spells : PySem.W.codeIn K cd_channel_spells "channel_spells" = true)
    (k_channel_spells : PySem.W.keepIn K (.ref f_channel_spells) = true)
    (a_is_meeting : PySem.W.nsIn K mainGlobals "is_meeting" = some (some (.ref f_is_meeting)))
    (l_is_meeting : K.lookup f_is_meeting = some ⟨oc_is_meeting, od_is_meeting, .func (PySem.W.fnOf "is_meeting" "is_meeting" (defArgs s_is_meeting) (defBody s_is_meeting) (defScope s_is_meeting) .none kV_is_meeting dc_is_meeting pm_is_meeting an_is_meeting cd_is_meeting ct_is_meeting), sl_is_meeting⟩)
    (c_is_meeting : PySem.W.codeIn K cd_is_meeting "is_meeting" = true)
    (k_is_meeting : PySem.W.keepIn K (.ref f_is_meeting) = true)
    (a_fault_of : PySem.W.nsIn K mainGlobals "fault_of" = some (some (.ref f_fault_of)))
    (l_fault_of : K.lookup f_fault_of = some ⟨oc_fault_of, od_fault_of, .func (PySem.W.fnOf "fault_of" "fault_of" (defArgs s_fault_of) (defBody s_fault_of) (defScope s_fault_of) .none kV_fault_of dc_fault_of pm_fault_of an_fault_of cd_fault_of ct_fault_of), sl_fault_of⟩)
    (c_fault_of : PySem.W.codeIn K cd_fault_of "fault_of" = true)
    (k_fault_of : PySem.W.keepIn K (.ref f_fault_of) = true)
    (a__law_channel : PySem.W.nsIn K mainGlobals "_law_channel" = some (some (.ref f__law_channel)))
    (l__law_channel : K.lookup f__law_channel = some ⟨oc__law_channel, od__law_channel, .func (PySem.W.fnOf "_law_channel" "_law_channel" (defArgs s__law_channel) (defBody s__law_channel) (defScope s__law_channel) .none kV__law_channel dc__law_channel pm__law_channel an__law_channel cd__law_channel ct__law_channel), sl__law_channel⟩)
    (c__law_channel : PySem.W.codeIn K cd__law_channel "_law_channel" = true)
    (k__law_channel : PySem.W.keepIn K (.ref f__law_channel) = true)
    (a__law_passages : PySem.W.nsIn K mainGlobals "_law_passages" = some (some (.ref f__law_passages)))
    (l__law_passages : K.lookup f__law_passages = some ⟨oc__law_passages, od__law_passages, .func (PySem.W.fnOf "_law_passages" "_law_passages" (defArgs s__law_passages) (defBody s__law_passages) (defScope s__law_passages) .none kV__law_passages dc__law_passages pm__law_passages an__law_passages cd__law_passages ct__law_passages), sl__law_passages⟩)
    (c__law_passages : PySem.W.codeIn K cd__law_passages "_law_passages" = true)
    (k__law_passages : PySem.W.keepIn K (.ref f__law_passages) = true)
    (a__law_in_section : PySem.W.nsIn K mainGlobals "_law_in_section" = some (some (.ref f__law_in_section)))
    (l__law_in_section : K.lookup f__law_in_section = some ⟨oc__law_in_section, od__law_in_section, .func (PySem.W.fnOf "_law_in_section" "_law_in_section" (defArgs s__law_in_section) (defBody s__law_in_section) (defScope s__law_in_section) .none kV__law_in_section dc__law_in_section pm__law_in_section an__law_in_section cd__law_in_section ct__law_in_section), sl__law_in_section⟩)
    (c__law_in_section : PySem.W.codeIn K cd__law_in_section "_law_in_section" = true)
    (k__law_in_section : PySem.W.keepIn K (.ref f__law_in_section) = true)
    (a__law_passage_fault : PySem.W.nsIn K mainGlobals "_law_passage_fault" = some (some (.ref f__law_passage_fault)))
    (l__law_passage_fault : K.lookup f__law_passage_fault = some ⟨oc__law_passage_fault, od__law_passage_fault, .func (PySem.W.fnOf "_law_passage_fault" "_law_passage_fault" (defArgs s__law_passage_fault) (defBody s__law_passage_fault) (defScope s__law_passage_fault) .none kV__law_passage_fault dc__law_passage_fault pm__law_passage_fault an__law_passage_fault cd__law_passage_fault ct__law_passage_fault), sl__law_passage_fault⟩)
    (c__law_passage_fault : PySem.W.codeIn K cd__law_passage_fault "_law_passage_fault" = true)
    (k__law_passage_fault : PySem.W.keepIn K (.ref f__law_passage_fault) = true)
    (a_next_try : PySem.W.nsIn K mainGlobals "next_try" = some (some (.ref f_next_try)))
    (l_next_try : K.lookup f_next_try = some ⟨oc_next_try, od_next_try, .func (PySem.W.fnOf "next_try" "next_try" (defArgs s_next_try) (defBody s_next_try) (defScope s_next_try) .none kV_next_try dc_next_try pm_next_try an_next_try cd_next_try ct_next_try), sl_next_try⟩)
    (c_next_try : PySem.W.codeIn K cd_next_try "next_try" = true)
    (k_next_try : PySem.W.keepIn K (.ref f_next_try) = true)
    (a_next_passage : PySem.W.nsIn K mainGlobals "next_passage" = some (some (.ref f_next_passage)))
    (l_next_passage : K.lookup f_next_passage = some ⟨oc_next_passage, od_next_passage, .func (PySem.W.fnOf "next_passage" "next_passage" (defArgs s_next_passage) (defBody s_next_passage) (defScope s_next_passage) .none kV_next_passage dc_next_passage pm_next_passage an_next_passage cd_next_passage ct_next_passage), sl_next_passage⟩)
    (c_next_passage : PySem.W.codeIn K cd_next_passage "next_passage" = true)
    (k_next_passage : PySem.W.keepIn K (.ref f_next_passage) = true)
    (a_law : PySem.W.nsIn K mainGlobals "law" = some (some (.ref f_law)))
    (l_law : K.lookup f_law = some ⟨oc_law, od_law, .func (PySem.W.fnOf "law" "law" (defArgs s_law) (defBody s_law) (defScope s_law) .none kV_law dc_law pm_law an_law cd_law ct_law), sl_law⟩)
    (c_law : PySem.W.codeIn K cd_law "law" = true)
    (k_law : PySem.W.keepIn K (.ref f_law) = true)
    {tk_INWARDS : Tok} (gc_INWARDS : PySem.W.nsIn K mainGlobals "INWARDS" = some (some (.str "in" tk_INWARDS)))
    (z_len : PySem.W.nsIn K mainGlobals "len" = some none)
    (z_isinstance : PySem.W.nsIn K mainGlobals "isinstance" = some none)
    (z_list : PySem.W.nsIn K mainGlobals "list" = some none)
    (z_tuple : PySem.W.nsIn K mainGlobals "tuple" = some none)
    (z_range : PySem.W.nsIn K mainGlobals "range" = some none)
    (z_bool : PySem.W.nsIn K mainGlobals "bool" = some none)
    (z_int : PySem.W.nsIn K mainGlobals "int" = some none)
    (z_str : PySem.W.nsIn K mainGlobals "str" = some none)
    (z_sum : PySem.W.nsIn K mainGlobals "sum" = some none)
    (z_any : PySem.W.nsIn K mainGlobals "any" = some none)
    (z_zip : PySem.W.nsIn K mainGlobals "zip" = some none)
    (z_abs : PySem.W.nsIn K mainGlobals "abs" = some none)
    (z_max : PySem.W.nsIn K mainGlobals "max" = some none)
    (z_min : PySem.W.nsIn K mainGlobals "min" = some none)
    : ∃ fd : FuncData, (∀ (s : Shared) (v : Value), BindsTo s fd ⟨[v], []⟩ [("script", v)]) ∧ ∀ base : Heap, K.In base → base.Ns mainGlobals mg → FnOk l.prog w K mg base CX0 14 fa fd ["script"] (sp_law K) := by
  have e := hfa.symm.trans (PySem.W.mg_of X G a_law)
  cases e
  have T : Txt K mg := ⟨PySem.W.mg_none_of X G z_len, PySem.W.mg_none_of X G z_isinstance, PySem.W.mg_none_of X G z_list, PySem.W.mg_none_of X G z_tuple, PySem.W.mg_none_of X G z_range, PySem.W.mg_none_of X G z_bool, PySem.W.mg_none_of X G z_int, PySem.W.mg_none_of X G z_str, PySem.W.mg_none_of X G z_sum, PySem.W.mg_none_of X G z_any, PySem.W.mg_none_of X G z_zip, PySem.W.mg_none_of X G z_abs, PySem.W.mg_none_of X G z_max, PySem.W.mg_none_of X G z_min, ⟨_, PySem.W.mg_of X G gc_INWARDS, ⟨_, rfl⟩⟩⟩
  have F__law_same := fun_mk (st := s__law_same) l__law_same c__law_same k__law_same
  have b__law_same := F__law_same.binds (ps := ["actual", "due"]) fun _ _ _ _ _ _ us hl => match us, hl with | [_, _], _ => rfl
  have F__law_pool := fun_mk (st := s__law_pool) l__law_pool c__law_pool k__law_pool
  have b__law_pool := F__law_pool.binds (ps := ["script"]) fun _ _ _ _ _ _ us hl => match us, hl with | [_], _ => rfl
  have F__law_spread := fun_mk (st := s__law_spread) l__law_spread c__law_spread k__law_spread
  have b__law_spread := F__law_spread.binds (ps := ["cell"]) fun _ _ _ _ _ _ us hl => match us, hl with | [_], _ => rfl
  have F__law_draw := fun_mk (st := s__law_draw) l__law_draw c__law_draw k__law_draw
  have b__law_draw := F__law_draw.binds (ps := ["pool", "many"]) fun _ _ _ _ _ _ us hl => match us, hl with | [_, _], _ => rfl
  have F_channel_spells := fun_mk (st := s_channel_spells) l_channel_spells c_channel_spells k_channel_spells
  have b_channel_spells := F_channel_spells.binds (ps := ["channel", "passage"]) fun _ _ _ _ _ _ us hl => match us, hl with | [_, _], _ => rfl
  have F_is_meeting := fun_mk (st := s_is_meeting) l_is_meeting c_is_meeting k_is_meeting
  have b_is_meeting := F_is_meeting.binds (ps := ["channel", "one", "two"]) fun _ _ _ _ _ _ us hl => match us, hl with | [_, _, _], _ => rfl
  have F_fault_of := fun_mk (st := s_fault_of) l_fault_of c_fault_of k_fault_of
  have b_fault_of := F_fault_of.binds (ps := ["channel", "headway", "one", "two"]) fun _ _ _ _ _ _ us hl => match us, hl with | [_, _, _, _], _ => rfl
  have F__law_channel := fun_mk (st := s__law_channel) l__law_channel c__law_channel k__law_channel
  have b__law_channel := F__law_channel.binds (ps := ["pool"]) fun _ _ _ _ _ _ us hl => match us, hl with | [_], _ => rfl
  have F__law_passages := fun_mk (st := s__law_passages) l__law_passages c__law_passages k__law_passages
  have b__law_passages := F__law_passages.binds (ps := ["pool", "most"]) fun _ _ _ _ _ _ us hl => match us, hl with | [_, _], _ => rfl
  have F__law_in_section := fun_mk (st := s__law_in_section) l__law_in_section c__law_in_section k__law_in_section
  have b__law_in_section := F__law_in_section.binds (ps := ["channel", "passage", "number"]) fun _ _ _ _ _ _ us hl => match us, hl with | [_, _, _], _ => rfl
  have F__law_passage_fault := fun_mk (st := s__law_passage_fault) l__law_passage_fault c__law_passage_fault k__law_passage_fault
  have b__law_passage_fault := F__law_passage_fault.binds (ps := ["channel", "headway", "one", "two"]) fun _ _ _ _ _ _ us hl => match us, hl with | [_, _, _, _], _ => rfl
  have F_next_try := fun_mk (st := s_next_try) l_next_try c_next_try k_next_try
  have b_next_try := F_next_try.binds (ps := ["channel", "headway", "passages", "passage"]) fun _ _ _ _ _ _ us hl => match us, hl with | [_, _, _, _], _ => rfl
  have F_next_passage := fun_mk (st := s_next_passage) l_next_passage c_next_passage k_next_passage
  have b_next_passage := F_next_passage.binds (ps := ["channel", "headway", "passages", "way", "start"]) fun _ _ _ _ _ _ us hl => match us, hl with | [_, _, _, _, _], _ => rfl
  have F_law := fun_mk (st := s_law) l_law c_law k_law
  have b_law := F_law.binds (ps := ["script"]) fun _ _ _ _ _ _ us hl => match us, hl with | [_], _ => rfl
  refine ⟨PySem.W.fnOf "law" "law" (defArgs s_law) (defBody s_law) (defScope s_law) .none kV_law dc_law pm_law an_law cd_law ct_law, fun s v => .of_eq rfl, fun base _ _ => ?_⟩
  have C__law_same : Cal l.prog w K mg base "_law_same" f__law_same _ ["actual", "due"] (sp__law_same_5 K) 6 := ⟨ok__law_same_all F__law_same T (PySem.W.mg_of X G a__law_same) b__law_same 5, PySem.W.mg_of X G a__law_same, F__law_same.kp, b__law_same⟩
  have C__law_pool : Cal l.prog w K mg base "_law_pool" f__law_pool _ ["script"] (sp__law_pool K) 1 := ⟨ok__law_pool F__law_pool T, PySem.W.mg_of X G a__law_pool, F__law_pool.kp, b__law_pool⟩
  have C__law_spread : Cal l.prog w K mg base "_law_spread" f__law_spread _ ["cell"] (sp__law_spread K) 1 := ⟨ok__law_spread F__law_spread T, PySem.W.mg_of X G a__law_spread, F__law_spread.kp, b__law_spread⟩
  have C__law_draw : Cal l.prog w K mg base "_law_draw" f__law_draw _ ["pool", "many"] (sp__law_draw K) 2 := ⟨ok__law_draw F__law_draw T C__law_spread, PySem.W.mg_of X G a__law_draw, F__law_draw.kp, b__law_draw⟩
  have C_channel_spells : Cal l.prog w K mg base "channel_spells" f_channel_spells _ ["channel", "passage"] (sp_channel_spells K) 1 := ⟨ok_channel_spells F_channel_spells T, PySem.W.mg_of X G a_channel_spells, F_channel_spells.kp, b_channel_spells⟩
  have C_is_meeting : Cal l.prog w K mg base "is_meeting" f_is_meeting _ ["channel", "one", "two"] (sp_is_meeting K) 3 := ⟨ok_is_meeting F_is_meeting T C_channel_spells, PySem.W.mg_of X G a_is_meeting, F_is_meeting.kp, b_is_meeting⟩
  have C_fault_of : Cal l.prog w K mg base "fault_of" f_fault_of _ ["channel", "headway", "one", "two"] (sp_fault_of K) 4 := ⟨ok_fault_of F_fault_of T C_is_meeting, PySem.W.mg_of X G a_fault_of, F_fault_of.kp, b_fault_of⟩
  have C__law_channel : Cal l.prog w K mg base "_law_channel" f__law_channel _ ["pool"] (sp__law_channel K) 3 := ⟨ok__law_channel F__law_channel T C__law_draw, PySem.W.mg_of X G a__law_channel, F__law_channel.kp, b__law_channel⟩
  have C__law_passages : Cal l.prog w K mg base "_law_passages" f__law_passages _ ["pool", "most"] (sp__law_passages K) 3 := ⟨ok__law_passages F__law_passages T C__law_draw, PySem.W.mg_of X G a__law_passages, F__law_passages.kp, b__law_passages⟩
  have C__law_in_section : Cal l.prog w K mg base "_law_in_section" f__law_in_section _ ["channel", "passage", "number"] (sp__law_in_section K) 1 := ⟨ok__law_in_section F__law_in_section T, PySem.W.mg_of X G a__law_in_section, F__law_in_section.kp, b__law_in_section⟩
  have C__law_passage_fault : Cal l.prog w K mg base "_law_passage_fault" f__law_passage_fault _ ["channel", "headway", "one", "two"] (sp__law_passage_fault K) 2 := ⟨ok__law_passage_fault F__law_passage_fault T C__law_in_section, PySem.W.mg_of X G a__law_passage_fault, F__law_passage_fault.kp, b__law_passage_fault⟩
  have C_next_try : Cal l.prog w K mg base "next_try" f_next_try _ ["channel", "headway", "passages", "passage"] (sp_next_try K) 6 := ⟨ok_next_try F_next_try T C_fault_of, PySem.W.mg_of X G a_next_try, F_next_try.kp, b_next_try⟩
  have C_next_passage : Cal l.prog w K mg base "next_passage" f_next_passage _ ["channel", "headway", "passages", "way", "start"] (sp_next_passage K) 7 := ⟨ok_next_passage F_next_passage T C_next_try, PySem.W.mg_of X G a_next_passage, F_next_passage.kp, b_next_passage⟩
  exact ok_law F_law T C__law_pool C__law_channel C__law_passages C__law_draw C__law_passage_fault C__law_same C_next_passage
end Tw
open PySem PySem.W PyProof.Rows
set_option maxRecDepth 100000 in
set_option maxHeartbeats 0 in
theorem PySem.Challenge.cw_tidewarden_k11_next_passages_holds : PySem.Challenge.rw_tidewarden_k11_next_passages.Holds := by
  w_on; o_law; k_head; (case hw => w_witness2)
  k_fill
  refine L2.walk_of (l := PySem.Challenge.rw_tidewarden_k11_next_passages) (n := 63) (k := 14) (x := "script") (CX := fun _ => L2.CX0) (sp := fun w => Tw.sp_law _) rfl (by decide) rfl ⟨rfl, by decide, by decide⟩ (fun w h Y => PySem.W.kIn_of Y) ?F (fun _ _ a ns hl _ hS => ⟨a, ns, rfl, hS, hl, fun _ => rfl⟩) (fun _ _ _ _ _ h => h)
  case F =>
    intro w mg fa h KX G hmg
    refine' Tw.all_mk KX G hmg ?a__law_same ?l__law_same ?c__law_same ?k__law_same ?a__law_pool ?l__law_pool ?c__law_pool ?k__law_pool ?a__law_spread ?l__law_spread ?c__law_spread ?k__law_spread ?a__law_draw ?l__law_draw ?c__law_draw ?k__law_draw ?a_channel_spells ?l_channel_spells ?c_channel_spells ?k_channel_spells ?a_is_meeting ?l_is_meeting ?c_is_meeting ?k_is_meeting ?a_fault_of ?l_fault_of ?c_fault_of ?k_fault_of ?a__law_channel ?l__law_channel ?c__law_channel ?k__law_channel ?a__law_passages ?l__law_passages ?c__law_passages ?k__law_passages ?a__law_in_section ?l__law_in_section ?c__law_in_section ?k__law_in_section ?a__law_passage_fault ?l__law_passage_fault ?c__law_passage_fault ?k__law_passage_fault ?a_next_try ?l_next_try ?c_next_try ?k_next_try ?a_next_passage ?l_next_passage ?c_next_passage ?k_next_passage ?a_law ?l_law ?c_law ?k_law ?gc_INWARDS ?z_len ?z_isinstance ?z_list ?z_tuple ?z_range ?z_bool ?z_int ?z_str ?z_sum ?z_any ?z_zip ?z_abs ?z_max ?z_min
    (case a__law_same => k_is)
    (case l__law_same => k_is)
    (case c__law_same => k_is)
    (case k__law_same => k_is)
    (case a__law_pool => k_is)
    (case l__law_pool => k_is)
    (case c__law_pool => k_is)
    (case k__law_pool => k_is)
    (case a__law_spread => k_is)
    (case l__law_spread => k_is)
    (case c__law_spread => k_is)
    (case k__law_spread => k_is)
    (case a__law_draw => k_is)
    (case l__law_draw => k_is)
    (case c__law_draw => k_is)
    (case k__law_draw => k_is)
    (case a_channel_spells => k_is)
    (case l_channel_spells => k_is)
    (case c_channel_spells => k_is)
    (case k_channel_spells => k_is)
    (case a_is_meeting => k_is)
    (case l_is_meeting => k_is)
    (case c_is_meeting => k_is)
    (case k_is_meeting => k_is)
    (case a_fault_of => k_is)
    (case l_fault_of => k_is)
    (case c_fault_of => k_is)
    (case k_fault_of => k_is)
    (case a__law_channel => k_is)
    (case l__law_channel => k_is)
    (case c__law_channel => k_is)
    (case k__law_channel => k_is)
    (case a__law_passages => k_is)
    (case l__law_passages => k_is)
    (case c__law_passages => k_is)
    (case k__law_passages => k_is)
    (case a__law_in_section => k_is)
    (case l__law_in_section => k_is)
    (case c__law_in_section => k_is)
    (case k__law_in_section => k_is)
    (case a__law_passage_fault => k_is)
    (case l__law_passage_fault => k_is)
    (case c__law_passage_fault => k_is)
    (case k__law_passage_fault => k_is)
    (case a_next_try => k_is)
    (case l_next_try => k_is)
    (case c_next_try => k_is)
    (case k_next_try => k_is)
    (case a_next_passage => k_is)
    (case l_next_passage => k_is)
    (case c_next_passage => k_is)
    (case k_next_passage => k_is)
    (case a_law => k_is)
    (case l_law => k_is)
    (case c_law => k_is)
    (case k_law => k_is)
    (case gc_INWARDS => k_is)
    (case z_len => k_is)
    (case z_isinstance => k_is)
    (case z_list => k_is)
    (case z_tuple => k_is)
    (case z_range => k_is)
    (case z_bool => k_is)
    (case z_int => k_is)
    (case z_str => k_is)
    (case z_sum => k_is)
    (case z_any => k_is)
    (case z_zip => k_is)
    (case z_abs => k_is)
    (case z_max => k_is)
    (case z_min => k_is)
#print axioms PySem.Challenge.cw_tidewarden_k11_next_passages_holds