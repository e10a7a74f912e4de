import PyProof.Rows.All
import Wide.All
import OpenK.AllK
import Wide.FinOn
import HandS.ForMost
import HandS.Wide
import HandS.IsInst
import HandS.More
import HandS.Conv
import HandS.Style
import HandS.Evl
import PyProof.TypeEq
import PyProof.FactsAll.object_2
import PySem.Challenge.RW_ringreads_k09_far_orders
set_option Elab.async false
set_option linter.all false
set_option maxRecDepth 100000
set_option maxHeartbeats 4000000
namespace Rg
open PySem PySem.Spec PyProof.Rows L2
/-! ### rules that the layer lacks -/
/-- a power of a wide base, a small exponent -/
def CPowW (i j : Int) : Prop := 0 ≤ j ∧ j ≤ 1000 ∧ i.natAbs < 2 ^ 100000
theorem CPowW.ok {i j : Int} (h : CPowW i j) : (Builtin.Int.intBits i : Int) * j ≤ 2 ^ 27 := by
  obtain ⟨h0, h1, h2⟩ := h
  have hb : Builtin.Int.intBits i ≤ 100000 := intBits_le h2
  have h3 : (Builtin.Int.intBits i : Int) * j ≤ 100000 * j := Int.mul_le_mul_of_nonneg_right (by omega) h0
  omega
theorem op_powW {X : Cx} : OpR X (binaryOp .Pow) (rI CPowW fun i j => .int (i ^ j.toNat)) := opI fun _ _ _ _ _ _ _ hc q => pow_int hc.1 hc.ok q
section
variable {prog : Program} {w : World} {A : Around} {E : Value → Shared → Prop} {s : Shared} {Q : Value → Shared → Prop}
theorem slot_type_ne : Slot "type" (cmpInfo .NotEq).2.1 "object.__ne__" :=
  .of (owner := "object") (n := "__ne__") (by rw [typeLookup_type, builtinLookup_eq_fast]; kernel_rfl) (by decide +kernel) (by decide +kernel) (by decide +kernel)
    (by first | exact .inl (by decide +kernel) | exact .inr (by decide +kernel)) (by rw [isSubtype_type]; kernel_rfl)
theorem ne_type_same {T : String} (hX : ∀ s' : Shared, s'.TypeIs (.type T) "type") (hu : A.units < cLine) (h : Q (.bool false) s) : wpAny (model prog w) A (compareOp .NotEq (.type T) (.type T)) Q E s := by
  show wpAny _ A (richCompare .NotEq _ _) Q E s
  refine wpAny_richCompare_same (T := "type") (hX s) (hX s) slot_type_ne ?_
  refine wpAny_call (codeAny_call_builtin slot_type_ne.plain F.entry_object_ne (slot_type_ne.check _ _ _ _ _ _ _ _ (hX s) (F.args_object_ne_2 _ _) ?_))
  unfold Builtin.«object.__ne__»
  repeat (first
    | with_reducible refine wpAny_cRoomFor hu ?_
    | (refine wpAny_bind (m := callSpecialIfBound? (.type T) (Str.ofString "__eq__") [.type T])
        (wpAny_callSpecialIfBound?_slot (hX _) PySem.TypeEq.slot_type_eq (call_gives PySem.TypeEq.slot_type_eq (hX _) F.entry_object_eq (F.args_object_eq_2 _ _) (PySem.TypeEq.object_eq_same rfl (by simp)) ?_)))
    | wp_step)
  refine wpAny_bind (m := truthy (.bool true)) (wpAny_truthy_bool ?_)
  exact wpAny_pure ⟨(fun e => nomatch e), h⟩
end
theorem meta_lt {a : String} (h : a = "list" ∨ a = "tuple") (s' : Shared) : s'.TypeIs (.type a) "type" := by
  rcases h with rfl | rfl
  · exact PySem.TypeEq.meta_list s'
  · exact PySem.TypeEq.meta_tuple s'
section
variable {X : Cx}
/-- type(x) == T, both the same of list and tuple; != likewise -/
def rTyS (b : Bool) : R2 := fun x y H Q => ∃ a, (a = "list" ∨ a = "tuple") ∧ x = .ty a ∧ y = .ty a ∧ Q (.bl b) H
theorem op_eqTy : OpR X (compareOp .Eq) (rTyS true) := by
  intro pins s σ H x y v u Q I rx ry h
  obtain ⟨a, ha, rfl, rfl, q⟩ := h
  cases (show v = Value.type a from rx)
  cases (show u = Value.type a from ry)
  exact PySem.TypeEq.eq_type_same (meta_lt ha) ⟨.bl true, H, I, rfl, q⟩
theorem op_neTy (hu : X.A.units + 64 < cLine) : OpR X (compareOp .NotEq) (rTyS false) := by
  intro pins s σ H x y v u Q I rx ry h
  obtain ⟨a, ha, rfl, rfl, q⟩ := h
  cases (show v = Value.type a from rx)
  cases (show u = Value.type a from ry)
  exact ne_type_same (meta_lt ha) (by omega) ⟨.bl false, H, I, rfl, q⟩
/-- list + list, both read: a new list -/
def rCatR (K : PySem.W.Frag) : R2 := fun x y H Q => ∃ l b xs zs, x = .ref l ∧ y = .ref b ∧ SqL K H l xs ∧ SqL K H b zs ∧ xs.length + zs.length ≤ 100000 ∧ ∀ p, H p = none → Q (.ref p) (upd H p (.lst (xs ++ zs)))
theorem op_catR : OpR X (binaryOp .Add) (rCatR X.K) := by
  intro pins s σ H x y v u Q I rx ry h
  obtain ⟨l, b, xs, zs, rfl, rfl, hH, hB, hz0, q⟩ := h
  have hz : xs.length + zs.length ≤ sizeLine := Nat.le_trans hz0 (by decide)
  cases rx
  cases ry
  obtain ⟨its, r, e, _⟩ := I.list hH
  obtain ⟨its2, r2, e2, _⟩ := I.list hB
  have hl := r.length
  have hl2 := r2.length
  obtain ⟨o1, n1, g1, c1, d1, k1⟩ := e
  obtain ⟨o2, n2, g2, c2, d2, k2⟩ := e2
  obtain ⟨cc1, dd1, dt1, sl1⟩ := o1
  obtain ⟨cc2, dd2, dt2, sl2⟩ := o2
  simp only at c1 d1 k1 c2 d2 k2
  subst c1 d1 k1 c2 d2 k2
  refine concat_meets ⟨_, g1, rfl⟩ ⟨_, g2, rfl⟩ noFill_list_add seq_list_add PySem.F.slot_list_add PySem.F.entry_list_add (PySem.F.args_list_add_2 _ _) (PyProof.Rows.list_addW l b its.toArray its2.toArray n1 n2 none none sl1 sl2 (by rw [List.size_toArray, List.size_toArray]; omega)) ⟨g1, g2, ?_⟩
  have ea : its.toArray ++ its2.toArray = (its ++ its2).toArray := by simp
  rw [ea]
  exact ⟨.ref _, _, I.lnew (t' := s.toks) (r.append r2) (by rw [List.length_append]; omega), rfl, q _ I.fresh⟩
end
theorem hu64 {A : Around} {k : Nat} (hr : Room k A) : A.units + 64 < cLine := hr.units
/-! ### a def of the text, with its name and how it is bound -/
structure Df (K : PySem.W.Frag) (mg : Str → Option Value) (x : Str) (st : Stmt) (ps : List Str) (f : Addr) (fd : FuncData) : Prop where
  fn : Fun K x x st f fd
  b : Binds K fd ps []
  g : mg x = some (.ref f)
/-! ### what changes -/
/-- all that was tracked, but the object at a, is as it was -/
def Sx (a : Addr) (H H' : Hp) : Prop := ∀ b o, b ≠ a → H b = some o → H' b = some o
/-- the source: its parts, and at most N draws so far -/
def Src (a : Addr) (N : Nat) (H : Hp) : Prop := ∃ x y z : Int, H a = some (.lst [.int x, .int y, .int z]) ∧ 0 ≤ y ∧ y < 2 ^ 300 ∧ 0 ≤ z ∧ z ≤ N
theorem Sx.refl (a : Addr) (H : Hp) : Sx a H H := fun _ _ _ h => h
theorem Sx.trans {a : Addr} {H H1 H2 : Hp} (x : Sx a H H1) (y : Sx a H1 H2) : Sx a H H2 := fun b o n h => y b o n (x b o n h)
theorem Sx.of {a : Addr} {H H' : Hp} (x : Same H H') : Sx a H H' := fun b o _ h => x b o h
theorem Sx.set {a : Addr} {H H1 : Hp} {o : HO} (x : Sx a H H1) : Sx a H (upd H1 a o) := fun b u n h => by
  rw [upd_ne n]
  exact x b u n h
theorem Same.new {H : Hp} {p : Addr} {o : HO} (h : H p = none) : Same H (upd H p o) := fun b u e => by
  rw [upd_ne (ne_of_none e h)]
  exact e
theorem Src.le {a : Addr} {N M : Nat} {H : Hp} (h : Src a N H) (k : N ≤ M) : Src a M H := by
  obtain ⟨x, y, z, e, h1, h2, h3, h4⟩ := h
  exact ⟨x, y, z, e, h1, h2, h3, by omega⟩
theorem Src.same {a : Addr} {N : Nat} {H H' : Hp} (h : Src a N H) (k : Same H H') : Src a N H' := by
  obtain ⟨x, y, z, e, r⟩ := h
  exact ⟨x, y, z, k _ _ e, r⟩
theorem sqe {K : PySem.W.Frag} {H : Hp} {a : Addr} {xs : List V} (h : H a = some (.lst xs)) : SqL K H a xs := .inl (.inl h)
theorem ste {K : PySem.W.Frag} {H : Hp} {a : Addr} {xs : List V} (h : H a = some (.tup xs)) : SqT K H a xs := .inl (.inl h)
end Rg
namespace Rg
open PySem PySem.Spec PyProof.Rows L2
/-! ### readings, a step at a time -/
section
variable {K : PySem.W.Frag} {σ : L2.St} {H : Hp} {Q : VK} {D : Ends} {ta tb tc : TE} {t u : TT} {t1 t2 : TS} {v x y : V} {i : Nat} {r r' : R2} {G : L2.St → Hp → Prop} {QB : Bool → Hp → Prop} {nx : L2.St → Hp → Prop} {rt : VK} {bk ct : L2.St → Hp → Prop}
theorem r_seq (h : t1 ⟨t2 ⟨nx, rt, bk, ct⟩, rt, bk, ct⟩ σ H) : tSeq t1 t2 ⟨nx, rt, bk, ct⟩ σ H := h
theorem r_next (h : nx σ H) : tNext ⟨nx, rt, bk, ct⟩ σ H := h
theorem r_asg {g : TG} (h : ta σ H fun x H1 => g x σ H1 nx) : tAsg ta g ⟨nx, rt, bk, ct⟩ σ H := h
theorem r_name (h : G (σ.set i (some v)) H) : gName i v σ H G := h
theorem r_sub {to ti : TE} {s : TSet} (h : to σ H fun o H1 => ti σ H1 fun i H2 => s o i v H2 fun H3 => G σ H3) : gSub to ti s v σ H G := h
theorem r_drop (h : ta σ H fun _ H1 => nx σ H1) : tDrop ta ⟨nx, rt, bk, ct⟩ σ H := h
theorem r_ret (h : ta σ H rt) : tRet ta ⟨nx, rt, bk, ct⟩ σ H := h
theorem r_aug {ti : TIp} (hx : σ[i]? = some (some x)) (h : ta σ H fun y H1 => ti x y H1 fun z H2 => nx (σ.set i (some z)) H2) : tAug i ta ti ⟨nx, rt, bk, ct⟩ σ H := ⟨x, hx, h⟩
theorem r_ip {f : Int → Int → Int} {a b : Int} (h : Q (.int (f a b)) H) : ipI f (.int a) (.int b) H Q := ⟨a, b, rfl, rfl, h⟩
theorem r_par {j : Nat} {t : TA} (h : t σ H fun vs H1 => ∃ v w, vs = [v, w] ∧ nx ((σ.set i (some v)).set j (some w)) H1) : tPar i j t ⟨nx, rt, bk, ct⟩ σ H := h
theorem r_par2 {v w : V} {j : Nat} (h : G ((σ.set i (some v)).set j (some w)) H) : ∃ a b, [v, w] = [a, b] ∧ G ((σ.set i (some a)).set j (some b)) H := ⟨v, w, rfl, h⟩
theorem r_var (h : σ[i]? = some (some v)) (q : Q v H) : tVar i σ H Q := ⟨v, h, q⟩
theorem r_c (q : Q v H) : tC v σ H Q := q
theorem r_op (h : ta σ H fun x H1 => tb σ H1 fun y H2 => r x y H2 Q) : tOp r ta tb σ H Q := h
theorem r_un {r : V → Hp → VK → Prop} (h : ta σ H fun x H1 => r x H1 Q) : tUn r ta σ H Q := h
theorem r_rU {g : Int → V} {a : Int} (h : Q (g a) H) : rU g (.int a) H Q := ⟨a, rfl, h⟩
theorem r_I0 {g : Int → Int → V} {a b : Int} (h : Q (g a b) H) : rI0 g (.int a) (.int b) H Q := ⟨a, b, rfl, rfl, h⟩
theorem r_I {C : Int → Int → Prop} {g : Int → Int → V} {a b : Int} (c : C a b) (h : Q (g a b) H) : rI C g (.int a) (.int b) H Q := ⟨a, b, rfl, rfl, c, h⟩
theorem r_eq (h : scal x y = true) (q : Q (.bl (decide (x = y))) H) : rEq x y H Q := ⟨h, q⟩
theorem r_ne (h : scal x y = true) (q : Q (.bl (!decide (x = y))) H) : rNe x y H Q := ⟨h, q⟩
theorem r_eqI {a b : Int} (q : Q (.bl (decide (a = b))) H) : rEq (.int a) (.int b) H Q := ⟨rfl, by
  have e : decide (V.int a = V.int b) = decide (a = b) := by
    by_cases h : a = b
    · subst h; simp
    · rw [decide_eq_false h, decide_eq_false]; intro e; exact h (V.int.inj e)
  rw [e]; exact q⟩
theorem r_neI {a b : Int} (q : Q (.bl (!decide (a = b))) H) : rNe (.int a) (.int b) H Q := ⟨rfl, by
  have e : decide (V.int a = V.int b) = decide (a = b) := by
    by_cases h : a = b
    · subst h; simp
    · rw [decide_eq_false h, decide_eq_false]; intro e; exact h (V.int.inj e)
  rw [e]; exact q⟩
theorem r_tyS {b : Bool} {a : String} (h : a = "list" ∨ a = "tuple") (q : Q (.bl b) H) : rTyS b (.ty a) (.ty a) H Q := ⟨a, h, rfl, rfl, q⟩
theorem r_test (h : ta σ H fun x H' => ∃ k, x = .bl k ∧ QB k H') : tTest ta σ H QB := h
theorem r_B (h : ta σ H fun x H' => ∃ k, x = .bl k ∧ QB k H') : tB ta σ H QB := h
theorem r_bl {b : Bool} {F : Bool → Prop} (h : F b) : ∃ k, V.bl b = .bl k ∧ F k := ⟨b, rfl, h⟩
theorem r_not (h : t σ H fun c H1 => QB (!c) H1) : tNot t σ H QB := h
theorem r_and (h : t σ H fun c H1 => if c = true then u σ H1 QB else QB false H1) : tAnd t u σ H QB := h
theorem r_or (h : t σ H fun c H1 => if c = true then QB true H1 else u σ H1 QB) : tOr t u σ H QB := h
theorem r_andV (h : ta σ H fun x H1 => ∃ c, x = .bl c ∧ if c = true then tb σ H1 Q else Q (.bl false) H1) : tAndV ta tb σ H Q := h
theorem r_orV (h : ta σ H fun x H1 => ∃ c, x = .bl c ∧ if c = true then Q (.bl true) H1 else tb σ H1 Q) : tOrV ta tb σ H Q := h
theorem r_notV (h : ta σ H fun x H1 => ∃ c, x = .bl c ∧ Q (.bl (!c)) H1) : tNotV ta σ H Q := h
theorem r_if (h : t σ H fun b H1 => if b = true then t1 ⟨nx, rt, bk, ct⟩ σ H1 else t2 ⟨nx, rt, bk, ct⟩ σ H1) : tIfS t t1 t2 ⟨nx, rt, bk, ct⟩ σ H := h
theorem r_ifE (h : t σ H fun c H1 => if c = true then ta σ H1 Q else tb σ H1 Q) : tIf t ta tb σ H Q := h
theorem r_chain (h : ta σ H fun x H1 => tb σ H1 fun y H2 => r x y H2 fun z H3 => ∃ k, z = .bl k ∧ (if k = true then tc σ H3 fun w' H4 => r' y w' H4 Q else Q (.bl false) H3)) : tChain r r' ta tb tc σ H Q := h
theorem r_cb {r : List V → Hp → VK → Prop} {t : TA} (h : t σ H fun vs H1 => r vs H1 Q) : tCB r t σ H Q := h
theorem r_call {sp : Sp} {E : XK} {t : TA} (h : t σ H fun vs H1 => sp vs H1 Q E) : tCall sp [] E t σ H Q := by
  show t σ H fun vs H1 => sp (vs ++ []) H1 Q E
  have e : (fun (vs : List V) (H1 : Hp) => sp (vs ++ []) H1 Q E) = fun vs H1 => sp vs H1 Q E := by
    funext vs H1
    rw [List.append_nil]
  rw [e]
  exact h
theorem r_nil {F : List V → Hp → Prop} (h : F [] H) : tNil σ H F := h
theorem r_cons {t : TA} {F : List V → Hp → Prop} (h : ta σ H fun x H1 => t σ H1 fun xs H2 => F (x :: xs) H2) : tCons ta t σ H F := h
theorem r_ixL {p : Addr} {xs : List V} {k : Int} (hs : SqL K H p xs) (ha : atI xs k = some v) (q : Q v H) : rIxL K (.ref p) (.int k) H Q := ⟨p, xs, k, v, rfl, rfl, hs, ha, q⟩
theorem r_ixT {p : Addr} {xs : List V} {k : Int} (hs : SqT K H p xs) (ha : atI xs k = some v) (q : Q v H) : rIxT K (.ref p) (.int k) H Q := ⟨p, xs, k, v, rfl, rfl, hs, ha, q⟩
theorem r_setL {p : Addr} {xs : List V} {k : Int} {j : Nat} {QH : Hp → Prop} (hs : H p = some (.lst xs)) (ha : ixN xs.length k = some j) (q : QH (upd H p (.lst (xs.set j v)))) : rSetL (.ref p) (.int k) v H QH := ⟨p, xs, k, j, rfl, rfl, hs, ha, q⟩
theorem r_lst {t : TA} (h : t σ H fun xs H1 => xs.length ≤ sizeLine ∧ ∀ p, H1 p = none → Q (.ref p) (upd H1 p (.lst xs))) : tLst t σ H Q := h
theorem r_tup {t : TA} (h : t σ H fun xs H1 => xs.length ≤ sizeLine ∧ ∀ p, H1 p = none → Q (.ref p) (upd H1 p (.tup xs))) : tTup t σ H Q := h
theorem r_sl {r : V → Option Int → Option Int → Hp → VK → Prop} {tl th : TO} (h : ta σ H fun x H1 => tl σ H1 fun l H2 => th σ H2 fun u H3 => r x l u H3 Q) : tSl r ta tl th σ H Q := h
theorem r_noP {F : Option Int → Hp → Prop} (h : F none H) : tNoPart σ H F := h
theorem r_part {F : Option Int → Hp → Prop} (h : ta σ H fun x H1 => ∃ i, x = .int i ∧ F (some i) H1) : tPart ta σ H F := h
theorem r_int {a : Int} {F : Int → Prop} (h : F a) : ∃ i, V.int a = .int i ∧ F i := ⟨a, rfl, h⟩
theorem r_slL {p : Addr} {xs : List V} {lo hi : Option Int} (hs : SqL K H p xs) (q : ∀ d, H d = none → Q (.ref d) (upd H d (.lst (cutV xs lo hi)))) : rSlL K (.ref p) lo hi H Q := ⟨p, xs, rfl, hs, q⟩
theorem r_catR {p b : Addr} {xs zs : List V} (hs : SqL K H p xs) (hb : SqL K H b zs) (hz : xs.length + zs.length ≤ 100000) (q : ∀ d, H d = none → Q (.ref d) (upd H d (.lst (xs ++ zs)))) : rCatR K (.ref p) (.ref b) H Q := ⟨p, b, xs, zs, rfl, rfl, hs, hb, hz, q⟩
theorem r_gtup {n : Nat} {t : TGs} {a : Addr} {xs : List V} (hs : SqT K H a xs) (hn : xs.length = n) (h : t xs σ H G) : gTup K n t (.ref a) σ H G := ⟨a, xs, rfl, hs, hn, h⟩
theorem r_gcons {g : TG} {gs : TGs} {xs : List V} (h : g x σ H fun σ' H' => gs xs σ' H' G) : gCons g gs (x :: xs) σ H G := ⟨x, xs, rfl, h⟩
theorem r_gnil (h : G σ H) : gNil [] σ H G := ⟨rfl, h⟩
theorem r_app {l : Addr} {xs : List V} (hl : H l = some (.lst xs)) (hz : xs.length < 100000) (q : Q .non (upd H l (.lst (xs ++ [y])))) : rAppend (.ref l) [y] H Q := ⟨l, xs, y, rfl, rfl, hl, Nat.lt_of_lt_of_le hz (by decide), q⟩
theorem r_bm {T : String} {r : V → List V → Hp → VK → Prop} {to : TE} {t : TA} (h : to σ H fun x H1 => tyV K T x H1 ∧ t σ H1 fun xs H2 => r x xs H2 Q) : tBM K T r to t σ H Q := h
theorem r_sum {p : Addr} {ns : List Int} (hs : SqL K H p (ns.map V.int)) (q : Q (.int ns.sum) H) : rSum K [.ref p] H Q := ⟨p, ns, rfl, hs, q⟩
theorem iteF' {A B : Prop} {c : Bool} (hc : c = false) (h : B) : if c = true then A else B := by subst hc; exact iteF h
theorem iteT' {A B : Prop} {c : Bool} (hc : c = true) (h : A) : if c = true then A else B := by subst hc; exact iteT h
end
section
variable {X : Cx}
def rIntI : List V → Hp → VK → Prop := fun xs H Q => ∃ i, xs = [.int i] ∧ Q (.int i) H
def rIntB : List V → Hp → VK → Prop := fun xs H Q => ∃ k, xs = [.bl k] ∧ Q (.int (if k then 1 else 0)) H
theorem call_intI : CallR X (.type "int") rIntI := fun pins s σ H xs us Q I r h => call_int1 pins s σ H xs us Q I r (.inl h)
theorem call_intB : CallR X (.type "int") rIntB := fun pins s σ H xs us Q I r h => call_int1 pins s σ H xs us Q I r (.inr h)
theorem r_intI {a : Int} {H : Hp} {Q : VK} (q : Q (.int a) H) : rIntI [.int a] H Q := ⟨a, rfl, q⟩
theorem r_intB {a : Bool} {H : Hp} {Q : VK} (q : Q (.int (if a then 1 else 0)) H) : rIntB [.bl a] H Q := ⟨a, rfl, q⟩
end
section
variable {X : Cx}
def rLen2 (K : PySem.W.Frag) : List V → Hp → VK → Prop := fun xs H Q => ∃ p ys, xs = [.ref p] ∧ (SqL K H p ys ∨ SqT K H p ys) ∧ Q (.int ys.length) H
theorem call_len2 : CallR X (.builtin "len") (rLen2 X.K) := call_len_seq
def rAbs2 : List V → Hp → VK → Prop := fun xs H Q => ∃ i, xs = [.int i] ∧ Q (.int (if i < 0 then -i else i)) H
theorem call_abs2 : CallR X (.builtin "abs") rAbs2 := call_abs
def rMx2 : List V → Hp → VK → Prop := fun xs H Q => ∃ i j, xs = [.int i, .int j] ∧ Q (.int (if j > i then j else i)) H
theorem call_mx2 (hc : X.calm = true) : CallR X (.builtin "max") rMx2 := call_max2 hc
def rMn2 : List V → Hp → VK → Prop := fun xs H Q => ∃ i j, xs = [.int i, .int j] ∧ Q (.int (if j < i then j else i)) H
theorem call_mn2 (hc : X.calm = true) : CallR X (.builtin "min") rMn2 := call_min2 hc
def rLst2 (K : PySem.W.Frag) : List V → Hp → VK → Prop := fun xs H Q => ∃ p ys, xs = [.ref p] ∧ (SqL K H p ys ∨ SqT K H p ys) ∧ ∀ l, H l = none → Q (.ref l) (upd H l (.lst ys))
theorem call_lst2 : CallR X (.type "list") (rLst2 X.K) := call_list_of
end
section
variable {K : PySem.W.Frag} {H : Hp} {Q : VK}
theorem r_len2 {p : Addr} {xs : List V} (hs : SqL K H p xs ∨ SqT K H p xs) (q : Q (.int (xs.length : Int)) H) : rLen2 K [.ref p] H Q := ⟨p, xs, rfl, hs, q⟩
theorem r_abs2 {a : Int} (q : Q (.int (if a < 0 then -a else a)) H) : rAbs2 [.int a] H Q := ⟨a, rfl, q⟩
theorem r_mx2 {a b : Int} (q : Q (.int (if b > a then b else a)) H) : rMx2 [.int a, .int b] H Q := ⟨a, b, rfl, q⟩
theorem r_mn2 {a b : Int} (q : Q (.int (if b < a then b else a)) H) : rMn2 [.int a, .int b] H Q := ⟨a, b, rfl, q⟩
theorem r_lst2 {p : Addr} {xs : List V} (hs : SqL K H p xs ∨ SqT K H p xs) (q : ∀ l, H l = none → Q (.ref l) (upd H l (.lst xs))) : rLst2 K [.ref p] H Q := ⟨p, xs, rfl, hs, q⟩
end
/-- the items of a written list -/
theorem at0 {a : V} {r : List V} : atI (a :: r) 0 = some a := atI_nat (j := 0) rfl
theorem at1 {a b : V} {r : List V} : atI (a :: b :: r) 1 = some b := atI_nat (j := 1) rfl
theorem at2 {a b c : V} {r : List V} : atI (a :: b :: c :: r) 2 = some c := atI_nat (j := 2) rfl
end Rg
namespace Rg
open PySem PySem.Spec PyProof.Rows L2
section
variable {K : PySem.W.Frag} {J : It} {g : TG} {tb : TS} {te : TE} {σ : L2.St} {H : Hp} {nx : L2.St → Hp → Prop} {rt : VK} {bk ct : L2.St → Hp → Prop}
theorem r_for {wi : TI} (h : wi σ H fun J H1 => ∃ W : Nat → Nat → L2.St → Hp → Prop, (∃ m, W 0 m σ H1) ∧ ∀ i m σ H, W i m σ H →
    (J.stop i H ∧ nx σ H) ∨ (J.go i H ∧ ∃ N : L2.St → Hp → Prop, (∀ σ' H', N σ' H' → ∃ m', m' < m ∧ W (i + 1) m' σ' H') ∧ ∀ x H', J.yld i H x H' → g x σ H' fun σ2 H2 => tb ⟨N, rt, nx, N⟩ σ2 H2)) : tFor wi g tb ⟨nx, rt, bk, ct⟩ σ H := h
theorem for_gen (n : Nat) (Pv : Nat → L2.St → Hp → Prop) (h0 : Pv 0 σ H) (hstop : ∀ σ H, Pv n σ H → J.stop n H) (hgo : ∀ i σ H, i < n → Pv i σ H → J.go i H)
    (hstep : ∀ i σ H x H', i < n → Pv i σ H → J.yld i H x H' → g x σ H' fun σ2 H2 => tb ⟨Pv (i + 1), rt, nx, Pv (i + 1)⟩ σ2 H2) (hdone : ∀ σ H, Pv n σ H → nx σ H) :
    ∃ W : Nat → Nat → L2.St → Hp → Prop, (∃ m, W 0 m σ H) ∧ ∀ i m σ H, W i m σ H →
    (J.stop i H ∧ nx σ H) ∨ (J.go i H ∧ ∃ N : L2.St → Hp → Prop, (∀ σ' H', N σ' H' → ∃ m', m' < m ∧ W (i + 1) m' σ' H') ∧ ∀ x H', J.yld i H x H' → g x σ H' fun σ2 H2 => tb ⟨N, rt, nx, N⟩ σ2 H2) := by
  refine ⟨fun i m s h => i + m = n ∧ Pv i s h, ⟨n, Nat.zero_add n, h0⟩, fun i m s h hw => ?_⟩
  obtain ⟨em, p⟩ := hw
  cases m with
  | zero =>
    have ei : i = n := by omega
    subst ei
    exact .inl ⟨hstop s h p, hdone s h p⟩
  | succ m => exact .inr ⟨hgo i s h (by omega) p, Pv (i + 1), fun s' h' q => ⟨m, Nat.lt_succ_self m, by omega, q⟩, fun x h' y => hstep i s h x h' (by omega) p y⟩
theorem r_lc {wi : TI} {vs : List Nat} {Q : VK} (h : wi σ H fun J H1 => ∀ D, H1 D = none → ∃ W : Nat → Nat → Hp → Prop, (∃ m, W 0 m (upd H1 D (.lst []))) ∧ ∀ i m H, W i m H →
    (J.stop i H ∧ Q (.ref D) H) ∨ (J.go i H ∧ ∃ Nx : Hp → Prop, (∀ H', Nx H' → ∃ m', m' < m ∧ W (i + 1) m' H') ∧ ∀ x H', J.yld i H x H' → g x (wipe σ vs) H' fun σ2 H2 => wipe σ2 vs = wipe σ vs ∧ tYes σ2 H2 fun b H3 =>
      if b = true then te σ2 H3 fun y H4 => ∃ acc, H4 D = some (.lst acc) ∧ acc.length < sizeLine ∧ Nx (upd H4 D (.lst (acc ++ [y]))) else Nx H3)) : tLc wi g tYes te vs σ H Q := h
/-- a comprehension: the word I of the turn and the heap, F of what each turn gives; both stand when the list at D grows -/
theorem lc_gen {D : Addr} {vs : List Nat} {Qd : Hp → Prop} (n : Nat) (hn : n ≤ 1000) (I : Nat → Hp → Prop) (F : Nat → V → Hp → Prop) (hD : H D = none) (h0 : I 0 (upd H D (.lst [])))
    (keep : ∀ i h acc acc', h D = some (.lst acc) → I i h → I i (upd h D (.lst acc'))) (hstop : ∀ h, I n h → J.stop n h) (hgo : ∀ i h, i < n → I i h → J.go i h)
    (hstep : ∀ i h x h' acc (Q : VK), i < n → I i h → h D = some (.lst acc) → J.yld i h x h' →
      (∀ y h4, I (i + 1) h4 → h4 D = some (.lst acc) → (∀ j z, j < i → F j z h → F j z h4) → F i y h4 → Q y h4) → g x (wipe σ vs) h' fun σ2 H2 => wipe σ2 vs = wipe σ vs ∧ te σ2 H2 Q)
    (keepF : ∀ i y h acc acc', h D = some (.lst acc) → F i y h → F i y (upd h D (.lst acc')))
    (hdone : ∀ h acc, I n h → h D = some (.lst acc) → acc.length = n → (∀ j z, acc[j]? = some z → F j z h) → Qd h) :
    ∃ W : Nat → Nat → Hp → Prop, (∃ m, W 0 m (upd H D (.lst []))) ∧ ∀ i m H, W i m H →
    (J.stop i H ∧ Qd H) ∨ (J.go i H ∧ ∃ Nx : Hp → Prop, (∀ H', Nx H' → ∃ m', m' < m ∧ W (i + 1) m' H') ∧ ∀ x H', J.yld i H x H' → g x (wipe σ vs) H' fun σ2 H2 => wipe σ2 vs = wipe σ vs ∧ tYes σ2 H2 fun b H3 =>
      if b = true then te σ2 H3 fun y H4 => ∃ acc, H4 D = some (.lst acc) ∧ acc.length < sizeLine ∧ Nx (upd H4 D (.lst (acc ++ [y]))) else Nx H3) := by
  refine ⟨fun i m h => i + m = n ∧ I i h ∧ ∃ acc : List V, h D = some (.lst acc) ∧ acc.length = i ∧ ∀ j z, acc[j]? = some z → F j z h, ⟨n, Nat.zero_add n, h0, [], upd_same, rfl, fun j z e => by simp at e⟩, fun i m h hw => ?_⟩
  obtain ⟨em, p, acc, ha, hl, hF⟩ := hw
  cases m with
  | zero =>
    have ei : i = n := by omega
    subst ei
    exact .inl ⟨hstop h p, hdone h acc p ha hl hF⟩
  | succ m =>
    refine .inr ⟨hgo i h (by omega) p, fun h' => i + 1 + m = n ∧ I (i + 1) h' ∧ ∃ acc : List V, h' D = some (.lst acc) ∧ acc.length = i + 1 ∧ ∀ j z, acc[j]? = some z → F j z h', fun h' q => ⟨m, Nat.lt_succ_self m, q⟩, fun x h' y => ?_⟩
    refine hstep i h x h' acc _ (by omega) p ha y fun z h4 i4 a4 k4 f4 => ⟨acc, a4, Nat.lt_of_lt_of_le (show acc.length < 2000 by omega) (by decide), by omega, keep _ _ _ _ a4 i4, _, upd_same, by rw [List.length_append, hl]; rfl, fun j w e => ?_⟩
    refine keepF _ _ _ _ _ a4 ?_
    by_cases hj : j < acc.length
    · rw [List.getElem?_append_left hj] at e
      exact k4 j w (by omega) (hF j w e)
    · have hj2 : j < (acc ++ [z]).length := (List.getElem?_eq_some_iff.mp e).1
      rw [List.length_append, List.length_singleton] at hj2
      have ej : j = acc.length := by omega
      subst ej
      rw [List.getElem?_append_right (Nat.le_refl _), Nat.sub_self] at e
      have ew : z = w := Option.some.inj e
      subst ew
      rw [hl]
      exact f4
theorem r_ilist {tl : TE} {R : It → Hp → Prop} (h : tl σ H fun x H1 => ∃ a, x = .ref a ∧ (∃ xs, SqL K H1 a xs) ∧ R (Itl K a) H1) : iList K tl σ H R := h
theorem r_il2 {a : Addr} {xs : List V} {F : Addr → Prop} (hx : SqL K H a xs) (q : F a) : ∃ b, V.ref a = .ref b ∧ (∃ xs, SqL K H b xs) ∧ F b := ⟨a, rfl, ⟨xs, hx⟩, q⟩
theorem r_ienum {ta : TA} {R : It → Hp → Prop} (h : ta σ H fun vs H1 => ∃ a xs, vs = [.ref a] ∧ SqL K H1 a xs ∧ R (Ite K a) H1) : iEnum K ta σ H R := h
theorem r_izip {ta : TA} {R : It → Hp → Prop} (h : ta σ H fun vs H1 => ∃ a b xs ys, vs = [.ref a, .ref b] ∧ SqL K H1 a xs ∧ SqL K H1 b ys ∧ R (Itz K a b) H1) : iZip K ta σ H R := h
theorem r_irng1 {ta : TA} {R : It → Hp → Prop} (h : ta σ H fun vs H1 => ∃ j : Int, vs = [.int j] ∧ -(2 ^ 62) ≤ j ∧ j < 2 ^ 62 ∧ R (Itr 0 j.toNat) H1) : iRng1 ta σ H R := h
theorem r_irng2 {ta : TA} {R : It → Hp → Prop} (h : ta σ H fun vs H1 => ∃ i j : Int, vs = [.int i, .int j] ∧ (-(2 ^ 62) ≤ i ∧ i < 2 ^ 62 ∧ -(2 ^ 62) ≤ j ∧ j < 2 ^ 62) ∧ R (Itr i (j - i).toNat) H1) : iRng2 ta σ H R := h
theorem get_of {xs : List V} {i : Nat} (h : i < xs.length) : ∃ x, xs[i]? = some x := ⟨_, List.getElem?_eq_getElem h⟩
theorem go_list {a : Addr} {xs : List V} {i : Nat} (h : SqL K H a xs) (hi : i < xs.length) : (Itl K a).go i H := by
  obtain ⟨x, hx⟩ := get_of hi
  exact ⟨xs, x, h, hx⟩
theorem go_enum {a : Addr} {xs : List V} {i : Nat} (h : SqL K H a xs) (hi : i < xs.length) : (Ite K a).go i H := by
  obtain ⟨x, hx⟩ := get_of hi
  exact ⟨xs, x, h, hx⟩
theorem go_zip {a b : Addr} {xs ys : List V} {i : Nat} (h : SqL K H a xs) (h' : SqL K H b ys) (hi : i < xs.length) (hj : i < ys.length) : (Itz K a b).go i H := by
  obtain ⟨x, hx⟩ := get_of hi
  obtain ⟨y, hy⟩ := get_of hj
  exact ⟨xs, ys, x, y, h, h', hx, hy⟩
end
section
variable {X : Cx}
theorem pg_tupK {es : List Expr} {k : Nat} {pos : Pos} {t : TGs} {n : Nat} {K : PySem.W.Frag} (hK : X.K = K) (hc : X.calm = true) (h : PGs X es t)
    (hn : (assignEach es X.env).length = n := by rfl) (hst : (assignEach es X.env).findIdx? (·.1) = none := by rfl) : PG X (.Tuple es k pos) (gTup K n t) := by
  subst hK
  exact pg_tup hc h hn hst
end
theorem same_keep {H h : Hp} {D : Addr} {o : HO} (hD : H D = none) (k : Same H h) : Same H (upd h D o) := fun b u e => by
  rw [upd_ne (ne_of_none e hD)]
  exact k b u e
end Rg
namespace R9
open PySem PySem.Spec PyProof.Rows L2 Rg
def top (i : Nat) : Stmt := PySem.Challenge.pw_ringreads_k09_far_orders.main.body.getD i (.Pass ⟨0, 0, 0, 0⟩)
abbrev s_is_integer : Stmt := top 11
abbrev N_is_integer : List Str := ["value"]
abbrev P_is_integer : List Str := ["value"]
theorem sc_is_integer : FnScope N_is_integer P_is_integer (defScope s_is_integer) := ⟨rfl, rfl, rfl, by decide +kernel, rfl, by decide +kernel, by decide +kernel⟩
abbrev s_is_between : Stmt := top 12
abbrev N_is_between : List Str := ["value", "least", "most"]
abbrev P_is_between : List Str := ["value", "least", "most"]
theorem sc_is_between : FnScope N_is_between P_is_between (defScope s_is_between) := ⟨rfl, rfl, rfl, by decide +kernel, rfl, by decide +kernel, by decide +kernel⟩
abbrev s_is_list : Stmt := top 13
abbrev N_is_list : List Str := ["value", "least", "most"]
abbrev P_is_list : List Str := ["value", "least", "most"]
theorem sc_is_list : FnScope N_is_list P_is_list (defScope s_is_list) := ⟨rfl, rfl, rfl, by decide +kernel, rfl, by decide +kernel, by decide +kernel⟩
abbrev s_is_mark : Stmt := top 14
abbrev N_is_mark : List Str := ["marks", "value"]
abbrev P_is_mark : List Str := ["marks", "value"]
theorem sc_is_mark : FnScope N_is_mark P_is_mark (defScope s_is_mark) := ⟨rfl, rfl, rfl, by decide +kernel, rfl, by decide +kernel, by decide +kernel⟩
abbrev s_is_record : Stmt := top 15
abbrev N_is_record : List Str := ["marks", "value", "begin", "length"]
abbrev P_is_record : List Str := ["marks", "value"]
theorem sc_is_record : FnScope N_is_record P_is_record (defScope s_is_record) := ⟨rfl, rfl, rfl, by decide +kernel, rfl, by decide +kernel, by decide +kernel⟩
abbrev s_is_new_index : Stmt := top 16
abbrev N_is_new_index : List Str := ["many", "items", "at"]
abbrev P_is_new_index : List Str := ["many", "items", "at"]
theorem sc_is_new_index : FnScope N_is_new_index P_is_new_index (defScope s_is_new_index) := ⟨rfl, rfl, rfl, by decide +kernel, rfl, by decide +kernel, by decide +kernel⟩
abbrev s_check_marks : Stmt := top 17
abbrev N_check_marks : List Str := ["marks"]
abbrev P_check_marks : List Str := ["marks"]
theorem sc_check_marks : FnScope N_check_marks P_check_marks (defScope s_check_marks) := ⟨rfl, rfl, rfl, by decide +kernel, rfl, by decide +kernel, by decide +kernel⟩
abbrev s_check_ring : Stmt := top 18
abbrev N_check_ring : List Str := ["marks", "records", "index", "record"]
abbrev P_check_ring : List Str := ["marks", "records"]
theorem sc_check_ring : FnScope N_check_ring P_check_ring (defScope s_check_ring) := ⟨rfl, rfl, rfl, by decide +kernel, rfl, by decide +kernel, by decide +kernel⟩
abbrev s_check_mark : Stmt := top 19
abbrev N_check_mark : List Str := ["marks", "mark"]
abbrev P_check_mark : List Str := ["marks", "mark"]
theorem sc_check_mark : FnScope N_check_mark P_check_mark (defScope s_check_mark) := ⟨rfl, rfl, rfl, by decide +kernel, rfl, by decide +kernel, by decide +kernel⟩
abbrev s_check_integer : Stmt := top 20
abbrev N_check_integer : List Str := ["number"]
abbrev P_check_integer : List Str := ["number"]
theorem sc_check_integer : FnScope N_check_integer P_check_integer (defScope s_check_integer) := ⟨rfl, rfl, rfl, by decide +kernel, rfl, by decide +kernel, by decide +kernel⟩
abbrev s_check_trip : Stmt := top 21
abbrev N_check_trip : List Str := ["records", "order", "many", "at"]
abbrev P_check_trip : List Str := ["records", "order"]
theorem sc_check_trip : FnScope N_check_trip P_check_trip (defScope s_check_trip) := ⟨rfl, rfl, rfl, by decide +kernel, rfl, by decide +kernel, by decide +kernel⟩
abbrev s_check_lap : Stmt := top 22
abbrev N_check_lap : List Str := ["records", "order", "many"]
abbrev P_check_lap : List Str := ["records", "order"]
theorem sc_check_lap : FnScope N_check_lap P_check_lap (defScope s_check_lap) := ⟨rfl, rfl, rfl, by decide +kernel, rfl, by decide +kernel, by decide +kernel⟩
abbrev s_end_of : Stmt := top 24
abbrev N_end_of : List Str := ["marks", "record", "begin", "length"]
abbrev P_end_of : List Str := ["marks", "record"]
theorem sc_end_of : FnScope N_end_of P_end_of (defScope s_end_of) := ⟨rfl, rfl, rfl, by decide +kernel, rfl, by decide +kernel, by decide +kernel⟩
abbrev s_moved : Stmt := top 25
abbrev N_moved : List Str := ["marks", "records", "by", "begin", "length"]
abbrev P_moved : List Str := ["marks", "records", "by"]
theorem sc_moved : FnScope N_moved P_moved (defScope s_moved) := ⟨rfl, rfl, rfl, by decide +kernel, rfl, by decide +kernel, by decide +kernel⟩
abbrev s_wait_between : Stmt := top 27
abbrev N_wait_between : List Str := ["marks", "record", "after"]
abbrev P_wait_between : List Str := ["marks", "record", "after"]
theorem sc_wait_between : FnScope N_wait_between P_wait_between (defScope s_wait_between) := ⟨rfl, rfl, rfl, by decide +kernel, rfl, by decide +kernel, by decide +kernel⟩
abbrev s_lap_waits : Stmt := top 28
abbrev N_lap_waits : List Str := ["marks", "records", "order", "afters", "index", "after"]
abbrev P_lap_waits : List Str := ["marks", "records", "order"]
theorem sc_lap_waits : FnScope N_lap_waits P_lap_waits (defScope s_lap_waits) := ⟨rfl, rfl, rfl, by decide +kernel, rfl, by decide +kernel, by decide +kernel⟩
abbrev s_lap_rounds : Stmt := top 29
abbrev N_lap_rounds : List Str := ["marks", "records", "order", "waited", "_", "length"]
abbrev P_lap_rounds : List Str := ["marks", "records", "order"]
theorem sc_lap_rounds : FnScope N_lap_rounds P_lap_rounds (defScope s_lap_rounds) := ⟨rfl, rfl, rfl, by decide +kernel, rfl, by decide +kernel, by decide +kernel⟩
abbrev s_trip_begins : Stmt := top 30
abbrev N_trip_begins : List Str := ["marks", "records", "mark", "order", "begins", "tick", "index", "begin", "length"]
abbrev P_trip_begins : List Str := ["marks", "records", "mark", "order"]
theorem sc_trip_begins : FnScope N_trip_begins P_trip_begins (defScope s_trip_begins) := ⟨rfl, rfl, rfl, by decide +kernel, rfl, by decide +kernel, by decide +kernel⟩
abbrev s_trip_ticks : Stmt := top 31
abbrev N_trip_ticks : List Str := ["marks", "records", "mark", "order", "begins"]
abbrev P_trip_ticks : List Str := ["marks", "records", "mark", "order"]
theorem sc_trip_ticks : FnScope N_trip_ticks P_trip_ticks (defScope s_trip_ticks) := ⟨rfl, rfl, rfl, by decide +kernel, rfl, by decide +kernel, by decide +kernel⟩
abbrev s_law_source : Stmt := top 33
abbrev N_law_source : List Str := ["cell", "k", "great"]
abbrev P_law_source : List Str := ["cell", "k"]
theorem sc_law_source : FnScope N_law_source P_law_source (defScope s_law_source) := ⟨rfl, rfl, rfl, by decide +kernel, rfl, by decide +kernel, by decide +kernel⟩
abbrev s_law_draw : Stmt := top 34
abbrev N_law_draw : List Str := ["source", "count", "digit", "mixed"]
abbrev P_law_draw : List Str := ["source", "count"]
theorem sc_law_draw : FnScope N_law_draw P_law_draw (defScope s_law_draw) := ⟨rfl, rfl, rfl, by decide +kernel, rfl, by decide +kernel, by decide +kernel⟩
abbrev s_law_mixed : Stmt := top 35
abbrev N_law_mixed : List Str := ["source", "some", "left", "found"]
abbrev P_law_mixed : List Str := ["source", "some"]
theorem sc_law_mixed : FnScope N_law_mixed P_law_mixed (defScope s_law_mixed) := ⟨rfl, rfl, rfl, by decide +kernel, rfl, by decide +kernel, by decide +kernel⟩
abbrev s_law_end : Stmt := top 36
abbrev N_law_end : List Str := ["wide", "part"]
abbrev P_law_end : List Str := ["wide", "part"]
theorem sc_law_end : FnScope N_law_end P_law_end (defScope s_law_end) := ⟨rfl, rfl, rfl, by decide +kernel, rfl, by decide +kernel, by decide +kernel⟩
abbrev s_law_rounds : Stmt := top 37
abbrev N_law_rounds : List Str := ["wide", "lot", "line", "found", "k", "spot", "after"]
abbrev P_law_rounds : List Str := ["wide", "lot", "line"]
theorem sc_law_rounds : FnScope N_law_rounds P_law_rounds (defScope s_law_rounds) := ⟨rfl, rfl, rfl, by decide +kernel, rfl, by decide +kernel, by decide +kernel⟩
abbrev s_law_begins : Stmt := top 38
abbrev N_law_begins : List Str := ["wide", "lot", "spot", "line", "at", "found", "k"]
abbrev P_law_begins : List Str := ["wide", "lot", "spot", "line"]
theorem sc_law_begins : FnScope N_law_begins P_law_begins (defScope s_law_begins) := ⟨rfl, rfl, rfl, by decide +kernel, rfl, by decide +kernel, by decide +kernel⟩
abbrev s_law_far_lot : Stmt := top 39
abbrev N_law_far_lot : List Str := ["source", "many", "wide", "spots", "found", "k", "at", "size", "way", "turn"]
abbrev P_law_far_lot : List Str := ["source", "many"]
theorem sc_law_far_lot : FnScope N_law_far_lot P_law_far_lot (defScope s_law_far_lot) := ⟨rfl, rfl, rfl, by decide +kernel, rfl, by decide +kernel, by decide +kernel⟩
abbrev s_law_right : Stmt := top 40
abbrev N_law_right : List Str := ["source", "wide", "lot", "line", "waits", "laps", "cut", "other", "rest", "start", "spot", "trip", "due", "end", "by", "far", "at", "size"]
abbrev P_law_right : List Str := ["source", "wide", "lot"]
theorem sc_law_right : FnScope N_law_right P_law_right (defScope s_law_right) := ⟨rfl, rfl, rfl, by decide +kernel, rfl, by decide +kernel, by decide +kernel⟩
abbrev s_law : Stmt := top 41
abbrev N_law : List Str := ["script", "k", "cell", "source", "turn", "wide", "lot"]
abbrev P_law : List Str := ["script"]
theorem sc_law : FnScope N_law P_law (defScope s_law) := ⟨rfl, rfl, rfl, by decide +kernel, rfl, by decide +kernel, by decide +kernel⟩
/-- what the top has written of them -/
structure Tx (K : PySem.W.Frag) (mg : Str → Option Value) where
  a_is_integer : Addr
  d_is_integer : FuncData
  p_is_integer : Df K mg "is_integer" s_is_integer P_is_integer a_is_integer d_is_integer
  a_is_between : Addr
  d_is_between : FuncData
  p_is_between : Df K mg "is_between" s_is_between P_is_between a_is_between d_is_between
  a_is_list : Addr
  d_is_list : FuncData
  p_is_list : Df K mg "is_list" s_is_list P_is_list a_is_list d_is_list
  a_is_mark : Addr
  d_is_mark : FuncData
  p_is_mark : Df K mg "is_mark" s_is_mark P_is_mark a_is_mark d_is_mark
  a_is_record : Addr
  d_is_record : FuncData
  p_is_record : Df K mg "is_record" s_is_record P_is_record a_is_record d_is_record
  a_is_new_index : Addr
  d_is_new_index : FuncData
  p_is_new_index : Df K mg "is_new_index" s_is_new_index P_is_new_index a_is_new_index d_is_new_index
  a_check_marks : Addr
  d_check_marks : FuncData
  p_check_marks : Df K mg "check_marks" s_check_marks P_check_marks a_check_marks d_check_marks
  a_check_ring : Addr
  d_check_ring : FuncData
  p_check_ring : Df K mg "check_ring" s_check_ring P_check_ring a_check_ring d_check_ring
  a_check_mark : Addr
  d_check_mark : FuncData
  p_check_mark : Df K mg "check_mark" s_check_mark P_check_mark a_check_mark d_check_mark
  a_check_integer : Addr
  d_check_integer : FuncData
  p_check_integer : Df K mg "check_integer" s_check_integer P_check_integer a_check_integer d_check_integer
  a_check_trip : Addr
  d_check_trip : FuncData
  p_check_trip : Df K mg "check_trip" s_check_trip P_check_trip a_check_trip d_check_trip
  a_check_lap : Addr
  d_check_lap : FuncData
  p_check_lap : Df K mg "check_lap" s_check_lap P_check_lap a_check_lap d_check_lap
  a_end_of : Addr
  d_end_of : FuncData
  p_end_of : Df K mg "end_of" s_end_of P_end_of a_end_of d_end_of
  a_moved : Addr
  d_moved : FuncData
  p_moved : Df K mg "moved" s_moved P_moved a_moved d_moved
  a_wait_between : Addr
  d_wait_between : FuncData
  p_wait_between : Df K mg "wait_between" s_wait_between P_wait_between a_wait_between d_wait_between
  a_lap_waits : Addr
  d_lap_waits : FuncData
  p_lap_waits : Df K mg "lap_waits" s_lap_waits P_lap_waits a_lap_waits d_lap_waits
  a_lap_rounds : Addr
  d_lap_rounds : FuncData
  p_lap_rounds : Df K mg "lap_rounds" s_lap_rounds P_lap_rounds a_lap_rounds d_lap_rounds
  a_trip_begins : Addr
  d_trip_begins : FuncData
  p_trip_begins : Df K mg "trip_begins" s_trip_begins P_trip_begins a_trip_begins d_trip_begins
  a_trip_ticks : Addr
  d_trip_ticks : FuncData
  p_trip_ticks : Df K mg "trip_ticks" s_trip_ticks P_trip_ticks a_trip_ticks d_trip_ticks
  a_law_source : Addr
  d_law_source : FuncData
  p_law_source : Df K mg "_law_source" s_law_source P_law_source a_law_source d_law_source
  a_law_draw : Addr
  d_law_draw : FuncData
  p_law_draw : Df K mg "_law_draw" s_law_draw P_law_draw a_law_draw d_law_draw
  a_law_mixed : Addr
  d_law_mixed : FuncData
  p_law_mixed : Df K mg "_law_mixed" s_law_mixed P_law_mixed a_law_mixed d_law_mixed
  a_law_end : Addr
  d_law_end : FuncData
  p_law_end : Df K mg "_law_end" s_law_end P_law_end a_law_end d_law_end
  a_law_rounds : Addr
  d_law_rounds : FuncData
  p_law_rounds : Df K mg "_law_rounds" s_law_rounds P_law_rounds a_law_rounds d_law_rounds
  a_law_begins : Addr
  d_law_begins : FuncData
  p_law_begins : Df K mg "_law_begins" s_law_begins P_law_begins a_law_begins d_law_begins
  a_law_far_lot : Addr
  d_law_far_lot : FuncData
  p_law_far_lot : Df K mg "_law_far_lot" s_law_far_lot P_law_far_lot a_law_far_lot d_law_far_lot
  a_law_right : Addr
  d_law_right : FuncData
  p_law_right : Df K mg "_law_right" s_law_right P_law_right a_law_right d_law_right
  a_law : Addr
  d_law : FuncData
  p_law : Df K mg "law" s_law P_law a_law d_law
  n_abs : mg "abs" = none
  n_bool : mg "bool" = none
  n_enumerate : mg "enumerate" = none
  n_int : mg "int" = none
  n_isinstance : mg "isinstance" = none
  n_len : mg "len" = none
  n_list : mg "list" = none
  n_max : mg "max" = none
  n_min : mg "min" = none
  n_range : mg "range" = none
  n_sum : mg "sum" = none
  n_tuple : mg "tuple" = none
  n_type : mg "type" = none
  n_zip : mg "zip" = none
  t_MOST_LENGTH : Tok
  c_MOST_LENGTH : mg "MOST_LENGTH" = some (.int (10 ^ 31) t_MOST_LENGTH)
  t_MOST_MARKS : Tok
  c_MOST_MARKS : mg "MOST_MARKS" = some (.int (10 ^ 30) t_MOST_MARKS)
  t_MOST_RECORDS : Tok
  c_MOST_RECORDS : mg "MOST_RECORDS" = some (.int (30) t_MOST_RECORDS)
end R9
namespace R9
open PySem PySem.Spec PyProof.Rows L2 Rg
local macro_rules | `(tactic| walk_at "rs") => `(tactic| (first
  | with_reducible refine Rg.r_seq ?_ | with_reducible refine Rg.r_asg ?_ | with_reducible refine Rg.r_name ?_ | with_reducible refine Rg.r_drop ?_ | with_reducible refine Rg.r_ret ?_ | with_reducible refine Rg.r_next ?_
  | refine Rg.r_var rfl ?_ | with_reducible refine Rg.r_c ?_ | with_reducible refine Rg.r_op ?_ | with_reducible refine Rg.r_un ?_ | with_reducible refine Rg.r_rU ?_ | with_reducible refine Rg.r_I0 ?_
  | with_reducible refine Rg.r_eqI ?_ | with_reducible refine Rg.r_neI ?_ | with_reducible refine Rg.r_test ?_ | with_reducible refine Rg.r_B ?_ | with_reducible refine Rg.r_bl ?_ | with_reducible refine Rg.r_not ?_ | with_reducible refine Rg.r_and ?_ | with_reducible refine Rg.r_or ?_
  | with_reducible refine Rg.r_andV ?_ | with_reducible refine Rg.r_orV ?_ | with_reducible refine Rg.r_notV ?_ | with_reducible refine Rg.r_if ?_ | with_reducible refine Rg.r_ifE ?_ | with_reducible refine Rg.r_chain ?_
  | with_reducible refine Rg.r_cb ?_ | with_reducible refine Rg.r_call ?_ | with_reducible refine Rg.r_nil ?_ | with_reducible refine Rg.r_cons ?_ | with_reducible refine Rg.r_lst ?_ | with_reducible refine Rg.r_tup ?_ | with_reducible refine Rg.r_sl ?_ | with_reducible refine Rg.r_noP ?_ | with_reducible refine Rg.r_part ?_ | with_reducible refine Rg.r_int ?_
  | with_reducible refine Rg.r_intI ?_ | with_reducible refine Rg.r_intB ?_ | with_reducible refine Rg.r_abs2 ?_ | with_reducible refine Rg.r_mx2 ?_ | with_reducible refine Rg.r_mn2 ?_ | with_reducible refine Rg.r_sub ?_ | with_reducible refine Rg.r_par ?_ | with_reducible refine Rg.r_par2 ?_ | with_reducible refine Rg.r_bm ?_
  | with_reducible refine Rg.r_gcons ?_ | with_reducible refine Rg.r_gnil ?_ | refine Rg.r_aug rfl ?_ | with_reducible refine Rg.r_ip ?_ | with_reducible refine iteT ?_ | with_reducible refine iteF ?_
  | with_reducible refine Rg.r_for ?_ | with_reducible refine Rg.r_lc ?_ | with_reducible refine Rg.r_ilist ?_ | with_reducible refine Rg.r_ienum ?_ | with_reducible refine Rg.r_izip ?_ | with_reducible refine Rg.r_irng1 ?_ | with_reducible refine Rg.r_irng2 ?_))
section
variable {P : Program} {w : World} {K : PySem.W.Frag} {mg : Str → Option Value} {base : Heap}
def spDraw : Sp := fun vs H Q _ => ∃ (a : Addr) (c : Int) (N : Nat), vs = [.ref a, .int c] ∧ Src a N H ∧ 0 < c ∧ c.natAbs < 2 ^ 8000 ∧ N < 10 ^ 9 ∧
  ∀ r H', 0 ≤ r → r < c → Sx a H H' → Src a (N + 1) H' → Q (.int r) H'
theorem pow10 (n : Nat) : ((10 : Int) ^ (Int.toNat (n : Int))) = 10 ^ n := by rw [Int.toNat_natCast]
theorem cpow {b : Int} (e : Nat) (he : e ≤ 1000) {n : Nat} (hn : n ≤ 100000) (hb : b.natAbs < 2 ^ n) : CPowW b (e : Int) := ⟨by omega, by omega, Nat.lt_of_lt_of_le hb (Nat.pow_le_pow_right (by decide) hn)⟩
theorem ok_law_draw (T : Tx K mg) : FnOk P w K mg base CX0 1 T.a_law_draw T.d_law_draw P_law_draw spDraw := by
  refine T.p_law_draw.fn.ok sc_law_draw (fun vs H Q E h => ?_) (fun cdv A outer s H vs Q E hr h => ?_)
  · obtain ⟨a, c, N, rfl, _⟩ := h
    rfl
  · obtain ⟨a, c, N, rfl, ⟨x, y, z, hs, y0, y1, z0, z1⟩, c0, c1, hN, k⟩ := h
    refine ⟨_, (pss_cons (ps_if (pt_cmpR op_gt (pe_ix ix_list (pv 0) pe_int (fun _ _ => rfl)) pe_int (nomark _)) (pss_cons (ps_set (i := 2) sc_law_draw.nd rfl (.inl rfl) (pe_op op_mod (pe_callTy call_intI (by rfl) T.n_int (by rfl) (pa_cons (pe_ix ix_list (pv 0) pe_int (fun _ _ => rfl)) pa_nil)) (pv 1)))
      (pss_cons (ps_asg (pe_op op_fdivW (pe_ix ix_list (pv 0) pe_int (fun _ _ => rfl)) (pv 1)) (pg_sub (pv 0) pe_int set_list))
      (pss_one (ps_ret (pv 2))))) pss_nil)
      (pss_cons (ps_asg (pe_op op_add (pe_ix ix_list (pv 0) pe_int (fun _ _ => rfl)) pe_int) (pg_sub (pv 0) pe_int set_list))
      (pss_cons (ps_set (i := 3) sc_law_draw.nd rfl (.inl rfl) (pe_op op_mod (pe_callTy call_intI (by rfl) T.n_int (by rfl) (pa_cons (pe_op op_powW (pe_op op_add (pe_ix ix_list (pv 0) pe_int (fun _ _ => rfl)) (pe_op op_mulW pe_int (pe_ix ix_list (pv 0) pe_int (fun _ _ => rfl)))) pe_int) pa_nil)) (pe_op op_add (pe_op op_powW pe_int pe_int) pe_int)))
      (pss_cons (ps_set (i := 3) sc_law_draw.nd rfl (.inl rfl) (pe_op op_mod (pe_callTy call_intI (by rfl) T.n_int (by rfl) (pa_cons (pe_op op_powW (pe_op op_add (pe_op op_mulW (pv 3) (pe_ix ix_list (pv 0) pe_int (fun _ _ => rfl))) pe_int) pe_int) pa_nil)) (pe_op op_add (pe_op op_powW pe_int pe_int) pe_int)))
      (pss_one (ps_ret (pe_op op_mod (pe_callTy call_intI (by rfl) T.n_int (by rfl) (pa_cons (pe_op op_fdivW (pv 3) pe_int) pa_nil)) (pv 1)))))))), ?_⟩
    repeat walk_at "rs"
    refine r_ixL (sqe hs) at0 ?_
    repeat walk_at "rs"
    refine ite2 (fun e => ?_) (fun e => ?_)
    · repeat walk_at "rs"
      refine r_ixL (sqe hs) at0 ?_
      repeat walk_at "rs"
      refine r_I c0 ?_
      repeat walk_at "rs"
      refine r_ixL (sqe hs) at0 ?_
      repeat walk_at "rs"
      refine r_I (wide_div c0 c1 (by decide) (by decide)) ?_
      repeat walk_at "rs"
      refine r_setL (j := 0) hs rfl ?_
      repeat walk_at "rs"
      refine k _ _ (Int.emod_nonneg _ (by omega)) (Int.emod_lt_of_pos _ c0) (Sx.refl _ _).set ⟨_, y, z, upd_same, y0, y1, z0, by omega⟩
    · repeat walk_at "rs"
      refine r_ixL (sqe hs) at2 ?_
      repeat walk_at "rs"
      refine r_setL (j := 2) hs rfl ?_
      generalize hH1 : upd H a (HO.lst ([V.int x, V.int y, V.int z].set 2 (V.int (z + 1)))) = H1
      have hs1 : H1 a = some (.lst [.int x, .int y, .int (z + 1)]) := by
        rw [← hH1]
        exact upd_same
      have s1 : Sx a H H1 := by
        rw [← hH1]
        exact (Sx.refl _ _).set
      repeat walk_at "rs"
      refine r_ixL (sqe hs1) at1 ?_
      repeat walk_at "rs"
      refine r_ixL (sqe hs1) at2 ?_
      refine r_I (wide_mul (a := 20) (b := 64) (by decide) (by omega) (by decide) (by decide) (by decide)) ?_
      repeat walk_at "rs"
      refine r_I (cpow 3 (by decide) (n := 400) (by decide) (by omega)) ?_
      repeat walk_at "rs"
      refine r_I (cpow 39 (by decide) (n := 10) (by decide) (by decide)) ?_
      repeat walk_at "rs"
      refine r_I (by decide) ?_
      generalize (y + 900007 * (z + 1)) ^ Int.toNat 3 = b1
      have m1 := Int.emod_nonneg b1 (b := 10 ^ Int.toNat 39 + 3) (by decide)
      have m2 := Int.emod_lt_of_pos b1 (b := 10 ^ Int.toNat 39 + 3) (by decide)
      generalize hm : b1 % (10 ^ Int.toNat 39 + 3) = m at m1 m2 ⊢
      have m3 : m < 2 ^ 200 := Int.lt_of_lt_of_le m2 (by decide)
      repeat walk_at "rs"
      refine r_ixL (sqe hs1) at2 ?_
      refine r_I (wide_mul (a := 200) (b := 64) (by omega) (by omega) (by decide) (by decide) (by decide)) ?_
      repeat walk_at "rs"
      have m4 : (m * (z + 1)).natAbs < 2 ^ (200 + 64) := wide_lt (by omega) (by omega)
      refine r_I (cpow 3 (by decide) (n := 400) (by decide) (by omega)) ?_
      repeat walk_at "rs"
      refine r_I (cpow 40 (by decide) (n := 10) (by decide) (by decide)) ?_
      repeat walk_at "rs"
      refine r_I (by decide) ?_
      repeat walk_at "rs"
      refine r_I (wide_div (b := 20) (by decide) (by decide) (by decide) (by decide)) ?_
      repeat walk_at "rs"
      refine r_I c0 ?_
      exact k _ _ (Int.emod_nonneg _ (by omega)) (Int.emod_lt_of_pos _ c0) s1 ⟨_, y, _, hs1, y0, y1, by omega, by omega⟩
end
end R9
namespace R9
open PySem PySem.Spec PyProof.Rows L2 Rg
local macro_rules | `(tactic| walk_at "rs") => `(tactic| (first
  | with_reducible refine Rg.r_seq ?_ | with_reducible refine Rg.r_asg ?_ | with_reducible refine Rg.r_name ?_ | with_reducible refine Rg.r_drop ?_ | with_reducible refine Rg.r_ret ?_ | with_reducible refine Rg.r_next ?_
  | refine Rg.r_var rfl ?_ | with_reducible refine Rg.r_c ?_ | with_reducible refine Rg.r_op ?_ | with_reducible refine Rg.r_un ?_ | with_reducible refine Rg.r_rU ?_ | with_reducible refine Rg.r_I0 ?_
  | with_reducible refine Rg.r_eqI ?_ | with_reducible refine Rg.r_neI ?_ | with_reducible refine Rg.r_test ?_ | with_reducible refine Rg.r_B ?_ | with_reducible refine Rg.r_bl ?_ | with_reducible refine Rg.r_not ?_ | with_reducible refine Rg.r_and ?_ | with_reducible refine Rg.r_or ?_
  | with_reducible refine Rg.r_andV ?_ | with_reducible refine Rg.r_orV ?_ | with_reducible refine Rg.r_notV ?_ | with_reducible refine Rg.r_if ?_ | with_reducible refine Rg.r_ifE ?_ | with_reducible refine Rg.r_chain ?_
  | with_reducible refine Rg.r_cb ?_ | with_reducible refine Rg.r_call ?_ | with_reducible refine Rg.r_nil ?_ | with_reducible refine Rg.r_cons ?_ | with_reducible refine Rg.r_lst ?_ | with_reducible refine Rg.r_tup ?_ | with_reducible refine Rg.r_sl ?_ | with_reducible refine Rg.r_noP ?_ | with_reducible refine Rg.r_part ?_ | with_reducible refine Rg.r_int ?_
  | with_reducible refine Rg.r_intI ?_ | with_reducible refine Rg.r_intB ?_ | with_reducible refine Rg.r_abs2 ?_ | with_reducible refine Rg.r_mx2 ?_ | with_reducible refine Rg.r_mn2 ?_ | with_reducible refine Rg.r_sub ?_ | with_reducible refine Rg.r_par ?_ | with_reducible refine Rg.r_par2 ?_ | with_reducible refine Rg.r_bm ?_
  | with_reducible refine Rg.r_gcons ?_ | with_reducible refine Rg.r_gnil ?_ | refine Rg.r_aug rfl ?_ | with_reducible refine Rg.r_ip ?_ | with_reducible refine iteT ?_ | with_reducible refine iteF ?_
  | with_reducible refine Rg.r_for ?_ | with_reducible refine Rg.r_lc ?_ | with_reducible refine Rg.r_ilist ?_ | with_reducible refine Rg.r_ienum ?_ | with_reducible refine Rg.r_izip ?_ | with_reducible refine Rg.r_irng1 ?_ | with_reducible refine Rg.r_irng2 ?_))
/-! ### data -/
def TupAt (H : Hp) (a : Addr) (p : Int × Int) : Prop := H a = some (.tup [.int p.1, .int p.2])
def LotAt (H : Hp) (l : Addr) (lot : List (Int × Int)) : Prop := ∃ as : List Addr, H l = some (.lst (as.map V.ref)) ∧ Paired (TupAt H) as lot
def IntsAt (H : Hp) (l : Addr) (ns : List Int) : Prop := H l = some (.lst (ns.map V.int))
def RecOk (w : Int) (p : Int × Int) : Prop := 0 ≤ p.1 ∧ p.1 < w ∧ 1 ≤ p.2 ∧ p.2 ≤ 10 ^ 31
structure RingOk (w : Int) (lot : List (Int × Int)) : Prop where
  w1 : 1 ≤ w
  w2 : w ≤ 10 ^ 30
  n1 : 1 ≤ lot.length
  n2 : lot.length ≤ 30
  rc : ∀ p ∈ lot, RecOk w p
/-- an order of n records: each index once -/
structure OrdOk (n : Nat) (ns : List Int) : Prop where
  len : ns.length = n
  rng : ∀ x ∈ ns, 0 ≤ x ∧ x < n
  nd : ns.Nodup
theorem TupAt.same {H H' : Hp} {a : Addr} {p : Int × Int} (h : TupAt H a p) (k : Same H H') : TupAt H' a p := k _ _ h
theorem LotAt.same {H H' : Hp} {a : Addr} {lot : List (Int × Int)} (h : LotAt H a lot) (k : Same H H') : LotAt H' a lot := by
  obtain ⟨as, e, p⟩ := h
  exact ⟨as, k _ _ e, Paired.mapP p fun _ _ q => q.same k⟩
theorem IntsAt.same {H H' : Hp} {a : Addr} {ns : List Int} (h : IntsAt H a ns) (k : Same H H') : IntsAt H' a ns := k _ _ h
theorem paired_get {α β : Type} {F : α → β → Prop} : ∀ {as : List α} {bs : List β} {i : Nat} {b : β}, Paired F as bs → bs[i]? = some b → ∃ a, as[i]? = some a ∧ F a b
  | _, _, _, _, .nil, h => by simp at h
  | _, _, 0, _, .cons r t, h => ⟨_, rfl, by
    have e := Option.some.inj h
    rw [← e]
    exact r⟩
  | _, _, i + 1, b, .cons r t, h => paired_get (i := i) (b := b) t h
theorem paired_len {α β : Type} {F : α → β → Prop} : ∀ {as : List α} {bs : List β}, Paired F as bs → as.length = bs.length
  | _, _, .nil => rfl
  | _, _, .cons _ t => congrArg Nat.succ (paired_len t)
theorem LotAt.get {H : Hp} {l : Addr} {lot : List (Int × Int)} {i : Nat} {p : Int × Int} (h : LotAt H l lot) (e : lot[i]? = some p) : ∃ (xs : List V) (a : Addr), H l = some (.lst xs) ∧ xs[i]? = some (.ref a) ∧ TupAt H a p := by
  obtain ⟨as, q, r⟩ := h
  obtain ⟨a, h1, h2⟩ := paired_get r e
  exact ⟨_, a, q, by rw [List.getElem?_map, h1]; rfl, h2⟩
theorem LotAt.seq {H : Hp} {l : Addr} {lot : List (Int × Int)} (h : LotAt H l lot) : ∃ xs : List V, H l = some (.lst xs) ∧ xs.length = lot.length := by
  obtain ⟨as, q, r⟩ := h
  exact ⟨_, q, by rw [List.length_map]; exact paired_len r⟩
section
variable {P : Program} {w : World} {K : PySem.W.Frag} {mg : Str → Option Value} {base : Heap}
/-! ### the checks -/
def spIsInt : Sp := fun vs H Q _ => ∃ i : Int, vs = [.int i] ∧ Q (.bl true) H
theorem ok_is_integer (T : Tx K mg) : FnOk P w K mg base CX0 1 T.a_is_integer T.d_is_integer P_is_integer spIsInt := by
  refine T.p_is_integer.fn.ok sc_is_integer (fun vs H Q E h => ?_) (fun cdv A outer s H vs Q E hr h => ?_)
  · obtain ⟨i, rfl, _⟩ := h
    rfl
  · obtain ⟨i, rfl, k⟩ := h
    refine ⟨_, (pss_one (ps_ret (pe_and (pe_callB call_isi (by rfl) T.n_isinstance (by rfl) (pa_cons (pv 0) (pa_cons (pe_bltn (v := .ty "int") (u := .type "int") (by rfl) T.n_int (by rfl) rfl) pa_nil))) (pe_one (pe_not (pe_callB call_isi (by rfl) T.n_isinstance (by rfl) (pa_cons (pv 0) (pa_cons (pe_bltn (v := .ty "bool") (u := .type "bool") (by rfl) T.n_bool (by rfl) rfl) pa_nil)))))))), ?_⟩
    repeat walk_at "rs"
    refine ⟨.int i, .ty "int", .type "int", .type "int", true, rfl, .ty "int", .base (.int i), rfl, ?_⟩
    repeat walk_at "rs"
    refine ⟨.int i, .ty "bool", .type "int", .type "bool", false, rfl, .ty "bool", .base (.int i), rfl, ?_⟩
    repeat walk_at "rs"
    exact k
def spBetween : Sp := fun vs H Q _ => ∃ v lo hi : Int, vs = [.int v, .int lo, .int hi] ∧ lo ≤ v ∧ v ≤ hi ∧ Q (.bl true) H
theorem ok_is_between (T : Tx K mg) : FnOk P w K mg base CX0 2 T.a_is_between T.d_is_between P_is_between spBetween := by
  refine T.p_is_between.fn.ok sc_is_between (fun vs H Q E h => ?_) (fun cdv A outer s H vs Q E hr h => ?_)
  · obtain ⟨v, lo, hi, rfl, _⟩ := h
    rfl
  · obtain ⟨v, lo, hi, rfl, h1, h2, k⟩ := h
    refine ⟨_, (pss_one (ps_ret (pe_and (pe_call (ok_is_integer T) (hr.mono (by decide)) (by rfl) T.p_is_integer.g T.p_is_integer.fn.kp T.p_is_integer.b .nil pass0 (pa_cons (pv 0) pa_nil)) (pe_one (pe_chain op_le op_le (pv 1) (pv 0) (pv 2)))))), ?_⟩
    repeat walk_at "rs"
    refine ⟨v, rfl, ?_⟩
    repeat walk_at "rs"
    refine iteT' (decide_eq_true h1) ?_
    repeat walk_at "rs"
    rw [decide_eq_true h2]
    exact k
def spIsList (K : PySem.W.Frag) : Sp := fun vs H Q _ => ∃ (l : Addr) (xs : List V) (lo hi : Int), vs = [.ref l, .int lo, .int hi] ∧ SqL K H l xs ∧ lo ≤ xs.length ∧ xs.length ≤ hi ∧ Q (.bl true) H
theorem ok_is_list (T : Tx K mg) : FnOk P w K mg base CX0 1 T.a_is_list T.d_is_list P_is_list (spIsList K) := by
  refine T.p_is_list.fn.ok sc_is_list (fun vs H Q E h => ?_) (fun cdv A outer s H vs Q E hr h => ?_)
  · obtain ⟨l, xs, lo, hi, rfl, _⟩ := h
    rfl
  · obtain ⟨l, xs, lo, hi, rfl, hs, h1, h2, k⟩ := h
    refine ⟨_, (pss_one (ps_ret (pe_and (pe_cmpR op_eqTy (pe_callTy call_type1 (by rfl) T.n_type (by rfl) (pa_cons (pv 0) pa_nil)) (pe_bltn (v := .ty "list") (u := .type "list") (by rfl) T.n_list (by rfl) rfl) (nomark _)) (pe_one (pe_chain op_le op_le (pv 1) (pe_callB call_len2 (by rfl) T.n_len (by rfl) (pa_cons (pv 0) pa_nil)) (pv 2)))))), ?_⟩
    repeat walk_at "rs"
    refine ⟨.ref l, "list", rfl, .lst hs, ?_⟩
    repeat walk_at "rs"
    refine r_tyS (.inl rfl) ?_
    repeat walk_at "rs"
    refine r_len2 (.inl hs) ?_
    repeat walk_at "rs"
    refine iteT' (decide_eq_true h1) ?_
    repeat walk_at "rs"
    rw [decide_eq_true h2]
    exact k
def spIsMark : Sp := fun vs H Q _ => ∃ m v : Int, vs = [.int m, .int v] ∧ 0 ≤ v ∧ v < m ∧ Q (.bl true) H
theorem ok_is_mark (T : Tx K mg) : FnOk P w K mg base CX0 3 T.a_is_mark T.d_is_mark P_is_mark spIsMark := by
  refine T.p_is_mark.fn.ok sc_is_mark (fun vs H Q E h => ?_) (fun cdv A outer s H vs Q E hr h => ?_)
  · obtain ⟨m, v, rfl, _⟩ := h
    rfl
  · obtain ⟨m, v, rfl, h1, h2, k⟩ := h
    refine ⟨_, (pss_one (ps_ret (pe_call (ok_is_between T) (hr.mono (by decide)) (by rfl) T.p_is_between.g T.p_is_between.fn.kp T.p_is_between.b .nil pass0 (pa_cons (pv 1) (pa_cons pe_int (pa_cons (pe_op op_sub (pv 0) pe_int) pa_nil)))))), ?_⟩
    repeat walk_at "rs"
    exact ⟨v, 0, m - 1, rfl, h1, by omega, k⟩
def spIsRec : Sp := fun vs H Q _ => ∃ (m : Int) (a : Addr) (p : Int × Int), vs = [.int m, .ref a] ∧ TupAt H a p ∧ RecOk m p ∧ Q (.bl true) H
theorem ok_is_record (T : Tx K mg) : FnOk P w K mg base CX0 4 T.a_is_record T.d_is_record P_is_record spIsRec := by
  refine T.p_is_record.fn.ok sc_is_record (fun vs H Q E h => ?_) (fun cdv A outer s H vs Q E hr h => ?_)
  · obtain ⟨m, a, p, rfl, _⟩ := h
    rfl
  · obtain ⟨m, a, p, rfl, ha, ⟨r1, r2, r3, r4⟩, k⟩ := h
    refine ⟨_, (pss_cons (ps_if (pw_or (pt_cmpR (op_neTy (hu64 hr)) (pe_callTy call_type1 (by rfl) T.n_type (by rfl) (pa_cons (pv 1) pa_nil)) (pe_bltn (v := .ty "tuple") (u := .type "tuple") (by rfl) T.n_tuple (by rfl) rfl) (nomark _)) (pw_or1 (pt_cmpR op_ne (pe_callB call_len2 (by rfl) T.n_len (by rfl) (pa_cons (pv 1) pa_nil)) pe_int (nomark _)))).pt (pss_one (ps_ret pe_bl)) pss_nil)
      (pss_cons (ps_asg (pv 1) (pg_tup (n := 2) rfl (pgs_cons (pg_name (i := 2) sc_is_record.nd rfl (.inl rfl)) (pgs_cons (pg_name (i := 3) sc_is_record.nd rfl (.inl rfl)) pgs_nil))))
      (pss_one (ps_ret (pe_and (pe_call (ok_is_mark T) (hr.mono (by decide)) (by rfl) T.p_is_mark.g T.p_is_mark.fn.kp T.p_is_mark.b .nil pass0 (pa_cons (pv 0) (pa_cons (pv 2) pa_nil))) (pe_one (pe_call (ok_is_between T) (hr.mono (by decide)) (by rfl) T.p_is_between.g T.p_is_between.fn.kp T.p_is_between.b .nil pass0 (pa_cons (pv 3) (pa_cons pe_int (pa_cons (pe_glob (v := .int (10 ^ 31)) rfl T.c_MOST_LENGTH ⟨_, rfl⟩) pa_nil)))))))))), ?_⟩
    repeat walk_at "rs"
    refine ⟨.ref a, "tuple", rfl, .tup (ste ha), ?_⟩
    repeat walk_at "rs"
    refine r_tyS (.inr rfl) ?_
    repeat walk_at "rs"
    refine r_len2 (.inr (ste ha)) ?_
    repeat walk_at "rs"
    refine iteF' rfl ?_
    repeat walk_at "rs"
    refine r_gtup (ste ha) rfl ?_
    repeat walk_at "rs"
    refine ⟨m, p.1, rfl, r1, r2, ?_⟩
    repeat walk_at "rs"
    exact ⟨p.2, 1, 10 ^ 31, rfl, r3, r4, k⟩
def spChkMarks : Sp := fun vs H Q _ => ∃ m : Int, vs = [.int m] ∧ 1 ≤ m ∧ m ≤ 10 ^ 30 ∧ Q .non H
theorem ok_check_marks (T : Tx K mg) : FnOk P w K mg base CX0 3 T.a_check_marks T.d_check_marks P_check_marks spChkMarks := by
  refine T.p_check_marks.fn.ok sc_check_marks (fun vs H Q E h => ?_) (fun cdv A outer s H vs Q E hr h => ?_)
  · obtain ⟨m, rfl, _⟩ := h
    rfl
  · obtain ⟨m, rfl, h1, h2, k⟩ := h
    refine ⟨_, (pss_one (ps_if (pt_not (pt_val (pe_call (ok_is_between T) (hr.mono (by decide)) (by rfl) T.p_is_between.g T.p_is_between.fn.kp T.p_is_between.b .nil pass0 (pa_cons (pv 0) (pa_cons pe_int (pa_cons (pe_glob (v := .int (10 ^ 30)) rfl T.c_MOST_MARKS ⟨_, rfl⟩) pa_nil)))))) (pss_one ps_never) pss_nil)), ?_⟩
    repeat walk_at "rs"
    refine ⟨m, 1, 10 ^ 30, rfl, h1, h2, ?_⟩
    repeat walk_at "rs"
    exact k
def spChkMark : Sp := fun vs H Q _ => ∃ m v : Int, vs = [.int m, .int v] ∧ 0 ≤ v ∧ v < m ∧ Q .non H
theorem ok_check_mark (T : Tx K mg) : FnOk P w K mg base CX0 4 T.a_check_mark T.d_check_mark P_check_mark spChkMark := by
  refine T.p_check_mark.fn.ok sc_check_mark (fun vs H Q E h => ?_) (fun cdv A outer s H vs Q E hr h => ?_)
  · obtain ⟨m, v, rfl, _⟩ := h
    rfl
  · obtain ⟨m, v, rfl, h1, h2, k⟩ := h
    refine ⟨_, (pss_one (ps_if (pt_not (pt_val (pe_call (ok_is_mark T) (hr.mono (by decide)) (by rfl) T.p_is_mark.g T.p_is_mark.fn.kp T.p_is_mark.b .nil pass0 (pa_cons (pv 0) (pa_cons (pv 1) pa_nil))))) (pss_one ps_never) pss_nil)), ?_⟩
    repeat walk_at "rs"
    refine ⟨m, v, rfl, h1, h2, ?_⟩
    repeat walk_at "rs"
    exact k
def spChkInt : Sp := fun vs H Q _ => ∃ v : Int, vs = [.int v] ∧ Q .non H
theorem ok_check_integer (T : Tx K mg) : FnOk P w K mg base CX0 2 T.a_check_integer T.d_check_integer P_check_integer spChkInt := by
  refine T.p_check_integer.fn.ok sc_check_integer (fun vs H Q E h => ?_) (fun cdv A outer s H vs Q E hr h => ?_)
  · obtain ⟨v, rfl, _⟩ := h
    rfl
  · obtain ⟨v, rfl, k⟩ := h
    refine ⟨_, (pss_one (ps_if (pt_not (pt_val (pe_call (ok_is_integer T) (hr.mono (by decide)) (by rfl) T.p_is_integer.g T.p_is_integer.fn.kp T.p_is_integer.b .nil pass0 (pa_cons (pv 0) pa_nil)))) (pss_one ps_never) pss_nil)), ?_⟩
    repeat walk_at "rs"
    refine ⟨v, rfl, ?_⟩
    repeat walk_at "rs"
    exact k
def spEnd : Sp := fun vs H Q _ => ∃ (m : Int) (a : Addr) (p : Int × Int), vs = [.int m, .ref a] ∧ TupAt H a p ∧ 1 ≤ m ∧ Q (.int ((p.1 + p.2) % m)) H
theorem ok_end_of (T : Tx K mg) : FnOk P w K mg base CX0 1 T.a_end_of T.d_end_of P_end_of spEnd := by
  refine T.p_end_of.fn.ok sc_end_of (fun vs H Q E h => ?_) (fun cdv A outer s H vs Q E hr h => ?_)
  · obtain ⟨m, a, p, rfl, _⟩ := h
    rfl
  · obtain ⟨m, a, p, rfl, ha, h1, k⟩ := h
    refine ⟨_, (pss_cons (ps_asg (pv 1) (pg_tup (n := 2) rfl (pgs_cons (pg_name (i := 2) sc_end_of.nd rfl (.inl rfl)) (pgs_cons (pg_name (i := 3) sc_end_of.nd rfl (.inl rfl)) pgs_nil))))
      (pss_one (ps_ret (pe_op op_mod (pe_op op_add (pv 2) (pv 3)) (pv 0))))), ?_⟩
    repeat walk_at "rs"
    refine r_gtup (ste ha) rfl ?_
    repeat walk_at "rs"
    refine r_I (by omega) ?_
    exact k
theorem ok_law_end (T : Tx K mg) : FnOk P w K mg base CX0 1 T.a_law_end T.d_law_end P_law_end spEnd := by
  refine T.p_law_end.fn.ok sc_law_end (fun vs H Q E h => ?_) (fun cdv A outer s H vs Q E hr h => ?_)
  · obtain ⟨m, a, p, rfl, _⟩ := h
    rfl
  · obtain ⟨m, a, p, rfl, ha, h1, k⟩ := h
    refine ⟨_, (pss_one (ps_ret (pe_op op_mod (pe_callTy call_intI (by rfl) T.n_int (by rfl) (pa_cons (pe_op op_add (pe_ix ix_tup (pv 1) pe_int (fun _ _ => rfl)) (pe_ix ix_tup (pv 1) pe_int (fun _ _ => rfl))) pa_nil)) (pv 0)))), ?_⟩
    repeat walk_at "rs"
    refine r_ixT (ste ha) at0 ?_
    repeat walk_at "rs"
    refine r_ixT (ste ha) at1 ?_
    repeat walk_at "rs"
    refine r_I (by omega) ?_
    exact k
def spWait : Sp := fun vs H Q _ => ∃ (m : Int) (a b : Addr) (p q : Int × Int), vs = [.int m, .ref a, .ref b] ∧ TupAt H a p ∧ TupAt H b q ∧ 1 ≤ m ∧ Q (.int ((q.1 - (p.1 + p.2) % m) % m)) H
theorem ok_wait_between (T : Tx K mg) : FnOk P w K mg base CX0 2 T.a_wait_between T.d_wait_between P_wait_between spWait := by
  refine T.p_wait_between.fn.ok sc_wait_between (fun vs H Q E h => ?_) (fun cdv A outer s H vs Q E hr h => ?_)
  · obtain ⟨m, a, b, p, q, rfl, _⟩ := h
    rfl
  · obtain ⟨m, a, b, p, q, rfl, ha, hb, h1, k⟩ := h
    refine ⟨_, (pss_one (ps_ret (pe_op op_mod (pe_op op_sub (pe_ix ix_tup (pv 2) pe_int (fun _ _ => rfl)) (pe_call (ok_end_of T) (hr.mono (by decide)) (by rfl) T.p_end_of.g T.p_end_of.fn.kp T.p_end_of.b .nil pass0 (pa_cons (pv 0) (pa_cons (pv 1) pa_nil)))) (pv 0)))), ?_⟩
    repeat walk_at "rs"
    refine r_ixT (ste hb) at0 ?_
    repeat walk_at "rs"
    refine ⟨m, a, p, rfl, ha, h1, ?_⟩
    repeat walk_at "rs"
    refine r_I (by omega) ?_
    exact k
end
end R9
namespace R9
open PySem PySem.Spec PyProof.Rows L2 Rg
local macro_rules | `(tactic| walk_at "rs") => `(tactic| (first
  | with_reducible refine Rg.r_seq ?_ | with_reducible refine Rg.r_asg ?_ | with_reducible refine Rg.r_name ?_ | with_reducible refine Rg.r_drop ?_ | with_reducible refine Rg.r_ret ?_ | with_reducible refine Rg.r_next ?_
  | refine Rg.r_var rfl ?_ | with_reducible refine Rg.r_c ?_ | with_reducible refine Rg.r_op ?_ | with_reducible refine Rg.r_un ?_ | with_reducible refine Rg.r_rU ?_ | with_reducible refine Rg.r_I0 ?_
  | with_reducible refine Rg.r_eqI ?_ | with_reducible refine Rg.r_neI ?_ | with_reducible refine Rg.r_test ?_ | with_reducible refine Rg.r_B ?_ | with_reducible refine Rg.r_bl ?_ | with_reducible refine Rg.r_not ?_ | with_reducible refine Rg.r_and ?_ | with_reducible refine Rg.r_or ?_
  | with_reducible refine Rg.r_andV ?_ | with_reducible refine Rg.r_orV ?_ | with_reducible refine Rg.r_notV ?_ | with_reducible refine Rg.r_if ?_ | with_reducible refine Rg.r_ifE ?_ | with_reducible refine Rg.r_chain ?_
  | with_reducible refine Rg.r_cb ?_ | with_reducible refine Rg.r_call ?_ | with_reducible refine Rg.r_nil ?_ | with_reducible refine Rg.r_cons ?_ | with_reducible refine Rg.r_lst ?_ | with_reducible refine Rg.r_tup ?_ | with_reducible refine Rg.r_sl ?_ | with_reducible refine Rg.r_noP ?_ | with_reducible refine Rg.r_part ?_ | with_reducible refine Rg.r_int ?_
  | with_reducible refine Rg.r_intI ?_ | with_reducible refine Rg.r_intB ?_ | with_reducible refine Rg.r_abs2 ?_ | with_reducible refine Rg.r_mx2 ?_ | with_reducible refine Rg.r_mn2 ?_ | with_reducible refine Rg.r_sub ?_ | with_reducible refine Rg.r_par ?_ | with_reducible refine Rg.r_par2 ?_ | with_reducible refine Rg.r_bm ?_
  | with_reducible refine Rg.r_gcons ?_ | with_reducible refine Rg.r_gnil ?_ | refine Rg.r_aug rfl ?_ | with_reducible refine Rg.r_ip ?_ | with_reducible refine iteT ?_ | with_reducible refine iteF ?_
  | with_reducible refine Rg.r_for ?_ | with_reducible refine Rg.r_lc ?_ | with_reducible refine Rg.r_ilist ?_ | with_reducible refine Rg.r_ienum ?_ | with_reducible refine Rg.r_izip ?_ | with_reducible refine Rg.r_irng1 ?_ | with_reducible refine Rg.r_irng2 ?_))
/-! ### the mathematics of the mirror -/
def nthP (lot : List (Int × Int)) (k : Int) : Int × Int := lot.getD k.toNat (0, 0)
def waitP (w : Int) (p q : Int × Int) : Int := (q.1 - (p.1 + p.2) % w) % w
def waitsF (w : Int) (lot : List (Int × Int)) (ns : List Int) : List Int := (ns.zip (ns.drop 1 ++ ns.take 1)).map fun x => waitP w (nthP lot x.1) (nthP lot x.2)
def stepB (w : Int) (lot : List (Int × Int)) (m : Int) (s : List Int × Int) (k : Int) : List Int × Int :=
  (s.1 ++ [s.2 + ((nthP lot k).1 - m - s.2) % w], s.2 + ((nthP lot k).1 - m - s.2) % w + (nthP lot k).2)
def beginsF (w : Int) (lot : List (Int × Int)) (m : Int) (ns : List Int) : List Int × Int := ns.foldl (stepB w lot m) ([], 0)
def movedF (w by_ : Int) (lot : List (Int × Int)) : List (Int × Int) := lot.map fun p => ((p.1 + by_) % w, p.2)
theorem take_one_more {α : Type} {l : List α} {i : Nat} {x : α} (h : l[i]? = some x) : l.take (i + 1) = l.take i ++ [x] := by
  rw [List.take_add_one, h]
  rfl
theorem beginsF_more {w m : Int} {lot : List (Int × Int)} {ns : List Int} {i : Nat} {k : Int} (h : ns[i]? = some k) : beginsF w lot m (ns.take (i + 1)) = stepB w lot m (beginsF w lot m (ns.take i)) k := by
  unfold beginsF
  rw [take_one_more h, List.foldl_append]
  rfl
theorem beginsF_len (w m : Int) (lot : List (Int × Int)) (ns : List Int) : (beginsF w lot m ns).1.length = ns.length := by
  have go : ∀ (l : List Int) (s : List Int × Int), (l.foldl (stepB w lot m) s).1.length = s.1.length + l.length := by
    intro l
    induction l with
    | nil => intro s; rfl
    | cons k l ih =>
      intro s
      rw [List.foldl_cons, ih]
      show (s.1 ++ [_]).length + l.length = s.1.length + (l.length + 1)
      rw [List.length_append, List.length_singleton]
      omega
  have h := go ns ([], 0)
  rw [show (([], 0) : List Int × Int).1.length = 0 from rfl] at h
  unfold beginsF
  omega
theorem LotAt.at {H : Hp} {l : Addr} {lot : List (Int × Int)} {k : Int} (h : LotAt H l lot) (h0 : 0 ≤ k) (h1 : k < lot.length) : ∃ (xs : List V) (a : Addr), H l = some (.lst xs) ∧ atI xs k = some (.ref a) ∧ TupAt H a (nthP lot k) := by
  have hj : k.toNat < lot.length := by omega
  have e : lot[k.toNat]? = some (nthP lot k) := by
    unfold nthP
    rw [List.getElem?_eq_getElem hj, List.getD_eq_getElem?_getD, List.getElem?_eq_getElem hj]
    rfl
  obtain ⟨xs, a, q, r, t⟩ := h.get e
  refine ⟨xs, a, q, ?_, t⟩
  have ek : k = ((k.toNat : Nat) : Int) := by omega
  rw [ek]
  exact atI_nat r
theorem ints_get {ns : List Int} {i : Nat} {x : V} (h : (ns.map V.int)[i]? = some x) : ∃ k, ns[i]? = some k ∧ x = .int k := by
  rw [List.getElem?_map] at h
  cases e : ns[i]? with
  | none =>
    rw [e] at h
    cases h
  | some k =>
    rw [e] at h
    exact ⟨k, rfl, (Option.some.inj h).symm⟩
theorem ints_at {ns : List Int} {i : Nat} {k : Int} (h : ns[i]? = some k) : atI (ns.map V.int) (i : Int) = some (.int k) := atI_nat (by rw [List.getElem?_map, h]; rfl)
theorem cut_take (xs : List V) (n : Nat) : cutV xs none (some (n : Int)) = xs.take n := by
  unfold cutV
  rw [show HT.sIx xs.length 0 none = 0 from rfl, HT.sIx_nat, List.drop_zero, Nat.sub_zero]
  rcases Nat.le_total n xs.length with h | h
  · rw [Nat.min_eq_left h]
  · rw [Nat.min_eq_right h, List.take_of_length_le h, List.take_of_length_le (Nat.le_refl _)]
theorem cut_drop (xs : List V) (n : Nat) : cutV xs (some (n : Int)) none = xs.drop n := by
  unfold cutV
  rw [show HT.sIx xs.length xs.length none = xs.length from rfl, HT.sIx_nat]
  rcases Nat.le_total n xs.length with h | h
  · rw [Nat.min_eq_left h]
    exact List.take_of_length_le (by rw [List.length_drop]; omega)
  · rw [Nat.min_eq_right h, Nat.sub_self, List.take_zero, List.drop_of_length_le h]
theorem all_flat (ns : List Int) : (ns.map V.int).all flatV = true := by
  rw [List.all_map]
  exact List.all_eq_true.mpr fun _ _ => rfl
theorem inV_ints (x : Int) (ns : List Int) : inV (.int x) (ns.map V.int) = decide (x ∈ ns) := by
  induction ns with
  | nil => rfl
  | cons a r ih =>
    unfold inV at ih ⊢
    rw [List.map_cons, List.any_cons, ih]
    show ((a == x) || decide (x ∈ r)) = decide (x ∈ a :: r)
    by_cases h : a = x
    · subst h
      simp
    · have h2 : ¬ x = a := fun e => h e.symm
      simp [h, h2]
section
variable {P : Program} {w : World} {K : PySem.W.Frag} {mg : Str → Option Value} {base : Heap}
def spNewIx : Sp := fun vs H Q _ => ∃ (m : Int) (l : Addr) (ns : List Int) (i : Nat) (x : Int), vs = [.int m, .ref l, .int (i : Int)] ∧ IntsAt H l ns ∧ ns[i]? = some x ∧ 0 ≤ x ∧ x < m ∧ x ∉ ns.take i ∧
  ∀ H', Same H H' → Q (.bl true) H'
theorem ok_is_new_index (T : Tx K mg) : FnOk P w K mg base CX0 3 T.a_is_new_index T.d_is_new_index P_is_new_index spNewIx := by
  refine T.p_is_new_index.fn.ok sc_is_new_index (fun vs H Q E h => ?_) (fun cdv A outer s H vs Q E hr h => ?_)
  · obtain ⟨m, l, ns, i, x, rfl, _⟩ := h
    rfl
  · obtain ⟨m, l, ns, i, x, rfl, hl, gx, h0, h1, hn, k⟩ := h
    refine ⟨_, (pss_one (ps_ret (pe_and (pe_call (ok_is_between T) (hr.mono (by decide)) (by rfl) T.p_is_between.g T.p_is_between.fn.kp T.p_is_between.b .nil pass0 (pa_cons (pe_ix ix_list (pv 1) (pv 2) (fun _ _ => rfl)) (pa_cons pe_int (pa_cons (pe_op op_sub (pv 0) pe_int) pa_nil)))) (pe_one (pe_cmpR op_notIn_seq (pe_ix ix_list (pv 1) (pv 2) (fun _ _ => rfl)) (pe_slice sl_list (pv 1) po_none (po_some (pv 2))) (by rfl)))))), ?_⟩
    repeat walk_at "rs"
    refine r_ixL (sqe hl) (ints_at gx) ?_
    repeat walk_at "rs"
    refine ⟨x, 0, m - 1, rfl, h0, by omega, ?_⟩
    repeat walk_at "rs"
    refine r_ixL (sqe hl) (ints_at gx) ?_
    repeat walk_at "rs"
    refine r_slL (sqe hl) fun d hd => ?_
    refine ⟨d, _, rfl, .inl (sqe upd_same), rfl, ?_, ?_⟩
    · rw [cut_take, ← List.map_take]
      exact all_flat _
    · rw [cut_take, ← List.map_take, inV_ints, decide_eq_false hn]
      exact k _ (Same.new hd)
def spChkRing : Sp := fun vs H Q _ => ∃ (m : Int) (l : Addr) (lot : List (Int × Int)), vs = [.int m, .ref l] ∧ LotAt H l lot ∧ RingOk m lot ∧ ∀ H', Same H H' → Q .non H'
theorem ok_check_ring (T : Tx K mg) : FnOk P w K mg base CX0 5 T.a_check_ring T.d_check_ring P_check_ring spChkRing := by
  refine T.p_check_ring.fn.ok sc_check_ring (fun vs H Q E h => ?_) (fun cdv A outer s H vs Q E hr h => ?_)
  · obtain ⟨m, l, lot, rfl, _⟩ := h
    rfl
  · obtain ⟨m, l, lot, rfl, hl, R, k⟩ := h
    obtain ⟨xs, hx, hn⟩ := hl.seq
    have n1 := R.n1
    have n2 := R.n2
    refine ⟨_, (pss_cons (ps_expr (pe_call (ok_check_marks T) (hr.mono (by decide)) (by rfl) T.p_check_marks.g T.p_check_marks.fn.kp T.p_check_marks.b .nil pass0 (pa_cons (pv 0) pa_nil)))
      (pss_cons (ps_if (pt_not (pt_val (pe_call (ok_is_list T) (hr.mono (by decide)) (by rfl) T.p_is_list.g T.p_is_list.fn.kp T.p_is_list.b .nil pass0 (pa_cons (pv 1) (pa_cons pe_int (pa_cons (pe_glob (v := .int (30)) rfl T.c_MOST_RECORDS ⟨_, rfl⟩) pa_nil)))))) (pss_one ps_never) pss_nil)
      (pss_one (ps_for PassesOwn.never rfl (pi_enum (by rfl) T.n_enumerate (pa_cons (pv 1) pa_nil)) (pg_tup (n := 2) rfl (pgs_cons (pg_name (i := 2) sc_check_ring.nd rfl (.inl rfl)) (pgs_cons (pg_name (i := 3) sc_check_ring.nd rfl (.inl rfl)) pgs_nil))) (pss_one (ps_if (pt_not (pt_val (pe_call (ok_is_record T) (hr.mono (by decide)) (by rfl) T.p_is_record.g T.p_is_record.fn.kp T.p_is_record.b .nil pass0 (pa_cons (pv 0) (pa_cons (pv 3) pa_nil))))) (pss_one ps_never) pss_nil)))))), ?_⟩
    repeat walk_at "rs"
    refine ⟨m, rfl, R.w1, R.w2, ?_⟩
    repeat walk_at "rs"
    refine ⟨l, xs, 1, 30, rfl, sqe hx, by omega, by omega, ?_⟩
    repeat walk_at "rs"
    refine ⟨l, xs, rfl, sqe hx, ?_⟩
    refine for_gen xs.length (fun i σ H' => ∃ y2 y3, σ = [some (.int m), some (.ref l), y2, y3] ∧ Same H H') ⟨none, none, rfl, Same.refl H⟩ ?_ ?_ ?_ ?_
    · rintro σ H' ⟨y2, y3, rfl, sm⟩
      exact ⟨xs, sqe (sm _ _ hx), Nat.le_refl _⟩
    · rintro i σ H' hi ⟨y2, y3, rfl, sm⟩
      exact go_enum (sqe (sm _ _ hx)) hi
    · rintro i σ H1 x H2 hi ⟨y2, y3, rfl, sm⟩ ⟨T1, v, rfl, nT, rfl, f⟩
      have gv := f xs (sqe (sm _ _ hx))
      have hi2 : i < lot.length := by omega
      obtain ⟨xs2, a, hx2, g2, ta⟩ := (hl.same sm).get (List.getElem?_eq_getElem hi2)
      have exs : xs2 = xs := by
        have e := hx2.symm.trans (sm _ _ hx)
        injection e with e
        injection e
      subst exs
      have ev : v = .ref a := Option.some.inj (gv.symm.trans g2)
      subst ev
      have s2 : Same H1 (upd H1 T1 (.tup [.int (i : Nat), .ref a])) := Same.new nT
      refine r_gtup (ste upd_same) rfl ?_
      repeat walk_at "rs"
      refine ⟨m, a, _, rfl, ta.same s2, R.rc _ (List.getElem_mem hi2), ?_⟩
      repeat walk_at "rs"
      exact ⟨_, _, rfl, sm.trans s2⟩
    · rintro σ H' ⟨y2, y3, rfl, sm⟩
      exact k _ sm
def spChkTrip : Sp := fun vs H Q _ => ∃ (l o : Addr) (lot : List (Int × Int)) (ns : List Int), vs = [.ref l, .ref o] ∧ LotAt H l lot ∧ lot.length ≤ 30 ∧ IntsAt H o ns ∧ OrdOk lot.length ns ∧ ∀ H', Same H H' → Q .non H'
theorem nodup_notin {ns : List Int} {i : Nat} {x : Int} (hn : ns.Nodup) (h : ns[i]? = some x) : x ∉ ns.take i := by
  intro hm
  obtain ⟨j, hj, ej⟩ := List.getElem_of_mem hm
  have hj2 : j < i ∧ j < ns.length := by
    rw [List.length_take] at hj
    omega
  rw [List.getElem_take] at ej
  have h2 : ns[j]? = some x := by rw [List.getElem?_eq_getElem hj2.2, ej]
  have e := nd_ix hn h2 h
  omega
theorem ok_check_trip (T : Tx K mg) : FnOk P w K mg base CX0 4 T.a_check_trip T.d_check_trip P_check_trip spChkTrip := by
  refine T.p_check_trip.fn.ok sc_check_trip (fun vs H Q E h => ?_) (fun cdv A outer s H vs Q E hr h => ?_)
  · obtain ⟨l, o, lot, ns, rfl, _⟩ := h
    rfl
  · obtain ⟨l, o, lot, ns, rfl, hl, hz, ho, O, k⟩ := h
    obtain ⟨xs, hx, hn⟩ := hl.seq
    have ol := O.len
    have ml : (ns.map V.int).length = ns.length := List.length_map _
    refine ⟨_, (pss_cons (ps_set (i := 2) sc_check_trip.nd rfl (.inl rfl) (pe_callB call_len2 (by rfl) T.n_len (by rfl) (pa_cons (pv 0) pa_nil)))
      (pss_cons (ps_if (pt_not (pt_val (pe_call (ok_is_list T) (hr.mono (by decide)) (by rfl) T.p_is_list.g T.p_is_list.fn.kp T.p_is_list.b .nil pass0 (pa_cons (pv 1) (pa_cons (pv 2) (pa_cons (pv 2) pa_nil)))))) (pss_one ps_never) pss_nil)
      (pss_one (ps_for PassesOwn.never rfl (pi_range1 rfl T.n_range (pa_cons (pv 2) pa_nil)) (pg_name (i := 3) sc_check_trip.nd rfl (.inl rfl)) (pss_one (ps_if (pt_not (pt_val (pe_call (ok_is_new_index T) (hr.mono (by decide)) (by rfl) T.p_is_new_index.g T.p_is_new_index.fn.kp T.p_is_new_index.b .nil pass0 (pa_cons (pv 2) (pa_cons (pv 1) (pa_cons (pv 3) pa_nil)))))) (pss_one ps_never) pss_nil)))))), ?_⟩
    repeat walk_at "rs"
    refine r_len2 (.inl (sqe hx)) ?_
    repeat walk_at "rs"
    refine ⟨o, _, _, _, rfl, sqe ho, by omega, by omega, ?_⟩
    repeat walk_at "rs"
    refine ⟨_, rfl, by omega, by omega, ?_⟩
    rw [Int.toNat_natCast]
    refine for_gen xs.length (fun i σ H' => ∃ y3, σ = [some (.ref l), some (.ref o), some (.int (xs.length : Int)), y3] ∧ Same H H') ⟨none, rfl, Same.refl H⟩ ?_ ?_ ?_ ?_
    · rintro σ H' ⟨y3, rfl, sm⟩
      exact Nat.le_refl _
    · rintro i σ H' hi ⟨y3, rfl, sm⟩
      exact hi
    · rintro i σ H1 x H2 hi ⟨y3, rfl, sm⟩ ⟨rfl, rfl⟩
      have hi2 : i < ns.length := by omega
      have gi := List.getElem?_eq_getElem hi2
      have rg := O.rng _ (List.getElem_mem hi2)
      rw [Int.zero_add]
      repeat walk_at "rs"
      refine ⟨_, o, ns, i, _, rfl, ho.same sm, gi, rg.1, by omega, nodup_notin O.nd gi, fun H3 s3 => ?_⟩
      repeat walk_at "rs"
      exact ⟨_, rfl, sm.trans s3⟩
    · rintro σ H' ⟨y3, rfl, sm⟩
      exact k _ sm
def spChkLap : Sp := fun vs H Q _ => ∃ (l o : Addr) (lot : List (Int × Int)) (ns : List Int), vs = [.ref l, .ref o] ∧ LotAt H l lot ∧ lot.length ≤ 30 ∧ IntsAt H o ns ∧ OrdOk lot.length ns ∧ ns[0]? = some 0 ∧ ∀ H', Same H H' → Q .non H'
theorem ok_check_lap (T : Tx K mg) : FnOk P w K mg base CX0 5 T.a_check_lap T.d_check_lap P_check_lap spChkLap := by
  refine T.p_check_lap.fn.ok sc_check_lap (fun vs H Q E h => ?_) (fun cdv A outer s H vs Q E hr h => ?_)
  · obtain ⟨l, o, lot, ns, rfl, _⟩ := h
    rfl
  · obtain ⟨l, o, lot, ns, rfl, hl, hz, ho, O, g0, k⟩ := h
    obtain ⟨xs, hx, hn⟩ := hl.seq
    have ol := O.len
    have ml : (ns.map V.int).length = ns.length := List.length_map _
    refine ⟨_, (pss_cons (ps_set (i := 2) sc_check_lap.nd rfl (.inl rfl) (pe_callB call_len2 (by rfl) T.n_len (by rfl) (pa_cons (pv 0) pa_nil)))
      (pss_cons (ps_if (pw_and (pt_val (pe_call (ok_is_list T) (hr.mono (by decide)) (by rfl) T.p_is_list.g T.p_is_list.fn.kp T.p_is_list.b .nil pass0 (pa_cons (pv 1) (pa_cons (pv 2) (pa_cons (pv 2) pa_nil))))) (pw_and1 (pt_cmpR op_ne (pe_ix ix_list (pv 1) pe_int (fun _ _ => rfl)) pe_int (nomark _)))).pt (pss_one ps_never) pss_nil)
      (pss_one (ps_expr (pe_call (ok_check_trip T) (hr.mono (by decide)) (by rfl) T.p_check_trip.g T.p_check_trip.fn.kp T.p_check_trip.b .nil pass0 (pa_cons (pv 0) (pa_cons (pv 1) pa_nil))))))), ?_⟩
    repeat walk_at "rs"
    refine r_len2 (.inl (sqe hx)) ?_
    repeat walk_at "rs"
    refine ⟨o, _, _, _, rfl, sqe ho, by omega, by omega, ?_⟩
    repeat walk_at "rs"
    refine r_ixL (sqe ho) (ints_at g0) ?_
    repeat walk_at "rs"
    refine iteF' rfl ?_
    repeat walk_at "rs"
    refine ⟨l, o, lot, ns, rfl, hl, hz, ho, O, fun H' sm => ?_⟩
    repeat walk_at "rs"
    exact k _ sm
end
end R9
namespace R9
open PySem PySem.Spec PyProof.Rows L2 Rg
local macro_rules | `(tactic| walk_at "rs") => `(tactic| (first
  | with_reducible refine Rg.r_seq ?_ | with_reducible refine Rg.r_asg ?_ | with_reducible refine Rg.r_name ?_ | with_reducible refine Rg.r_drop ?_ | with_reducible refine Rg.r_ret ?_ | with_reducible refine Rg.r_next ?_
  | refine Rg.r_var rfl ?_ | with_reducible refine Rg.r_c ?_ | with_reducible refine Rg.r_op ?_ | with_reducible refine Rg.r_un ?_ | with_reducible refine Rg.r_rU ?_ | with_reducible refine Rg.r_I0 ?_
  | with_reducible refine Rg.r_eqI ?_ | with_reducible refine Rg.r_neI ?_ | with_reducible refine Rg.r_test ?_ | with_reducible refine Rg.r_B ?_ | with_reducible refine Rg.r_bl ?_ | with_reducible refine Rg.r_not ?_ | with_reducible refine Rg.r_and ?_ | with_reducible refine Rg.r_or ?_
  | with_reducible refine Rg.r_andV ?_ | with_reducible refine Rg.r_orV ?_ | with_reducible refine Rg.r_notV ?_ | with_reducible refine Rg.r_if ?_ | with_reducible refine Rg.r_ifE ?_ | with_reducible refine Rg.r_chain ?_
  | with_reducible refine Rg.r_cb ?_ | with_reducible refine Rg.r_call ?_ | with_reducible refine Rg.r_nil ?_ | with_reducible refine Rg.r_cons ?_ | with_reducible refine Rg.r_lst ?_ | with_reducible refine Rg.r_tup ?_ | with_reducible refine Rg.r_sl ?_ | with_reducible refine Rg.r_noP ?_ | with_reducible refine Rg.r_part ?_ | with_reducible refine Rg.r_int ?_
  | with_reducible refine Rg.r_intI ?_ | with_reducible refine Rg.r_intB ?_ | with_reducible refine Rg.r_abs2 ?_ | with_reducible refine Rg.r_mx2 ?_ | with_reducible refine Rg.r_mn2 ?_ | with_reducible refine Rg.r_sub ?_ | with_reducible refine Rg.r_par ?_ | with_reducible refine Rg.r_par2 ?_ | with_reducible refine Rg.r_bm ?_
  | with_reducible refine Rg.r_gcons ?_ | with_reducible refine Rg.r_gnil ?_ | refine Rg.r_aug rfl ?_ | with_reducible refine Rg.r_ip ?_ | with_reducible refine iteT ?_ | with_reducible refine iteF ?_
  | with_reducible refine Rg.r_for ?_ | with_reducible refine Rg.r_lc ?_ | with_reducible refine Rg.r_ilist ?_ | with_reducible refine Rg.r_ienum ?_ | with_reducible refine Rg.r_izip ?_ | with_reducible refine Rg.r_irng1 ?_ | with_reducible refine Rg.r_irng2 ?_))
theorem waits_len (w : Int) (lot : List (Int × Int)) (ns : List Int) : (waitsF w lot ns).length = ns.length := by
  unfold waitsF
  rw [List.length_map, List.length_zip, List.length_append, List.length_drop, List.length_take]
  omega
theorem after_get {ns : List Int} {i : Nat} (hi : i < ns.length) : ∃ a, (ns.drop 1 ++ ns.take 1)[i]? = some a ∧ a ∈ ns := by
  have hl : (ns.drop 1 ++ ns.take 1).length = ns.length := by
    rw [List.length_append, List.length_drop, List.length_take]
    omega
  have h2 : i < (ns.drop 1 ++ ns.take 1).length := by omega
  refine ⟨_, List.getElem?_eq_getElem h2, ?_⟩
  have hm := List.getElem_mem h2
  rcases List.mem_append.mp hm with h | h
  · exact List.mem_of_mem_drop h
  · exact List.mem_of_mem_take h
section
variable {P : Program} {w : World} {K : PySem.W.Frag} {mg : Str → Option Value} {base : Heap}
def spWaits : Sp := fun vs H Q _ => ∃ (m : Int) (l o : Addr) (lot : List (Int × Int)) (ns : List Int), vs = [.int m, .ref l, .ref o] ∧ LotAt H l lot ∧ RingOk m lot ∧ IntsAt H o ns ∧ OrdOk lot.length ns ∧ ns[0]? = some 0 ∧
  ∀ q H', Same H H' → H q = none → IntsAt H' q (waitsF m lot ns) → Q (.ref q) H'
theorem ok_lap_waits (T : Tx K mg) : FnOk P w K mg base CX0 6 T.a_lap_waits T.d_lap_waits P_lap_waits spWaits := by
  refine T.p_lap_waits.fn.ok sc_lap_waits (fun vs H Q E h => ?_) (fun cdv A outer s H vs Q E hr h => ?_)
  · obtain ⟨m, l, o, lot, ns, rfl, _⟩ := h
    rfl
  · obtain ⟨m, l, o, lot, ns, rfl, hl, R, ho, O, g0, k⟩ := h
    have ol := O.len
    have n1 := R.n1
    have n2 := R.n2
    refine ⟨_, (pss_cons (ps_expr (pe_call (ok_check_ring T) (hr.mono (by decide)) (by rfl) T.p_check_ring.g T.p_check_ring.fn.kp T.p_check_ring.b .nil pass0 (pa_cons (pv 0) (pa_cons (pv 1) pa_nil))))
      (pss_cons (ps_expr (pe_call (ok_check_lap T) (hr.mono (by decide)) (by rfl) T.p_check_lap.g T.p_check_lap.fn.kp T.p_check_lap.b .nil pass0 (pa_cons (pv 1) (pa_cons (pv 2) pa_nil))))
      (pss_cons (ps_set (i := 3) sc_lap_waits.nd rfl (.inl rfl) (pe_op op_catR (pe_slice sl_list (pv 2) (po_some pe_int) po_none) (pe_slice sl_list (pv 2) po_none (po_some pe_int))))
      (pss_one (ps_ret (pe_lc (own := [("index", 4), ("after", 5)]) (tt := tYes) rfl sc_lap_waits.nd (pi_zip (by rfl) T.n_zip (pa_cons (pv 2) (pa_cons (pv 3) pa_nil))) (blkOk_by (N := N_lap_waits) (sc := defScope s_lap_waits) (by decide +kernel)) (fun _ _ _ _ _ => by exact (pg_tupK (n := 2) (K := K) rfl rfl (pgs_cons (pg_name (i := 4) sc_lap_waits.nd rfl (.inl rfl)) (pgs_cons (pg_name (i := 5) sc_lap_waits.nd rfl (.inl rfl)) pgs_nil)))) (fun _ _ _ _ _ => pts_nil) (fun _ _ _ _ _ => by exact (pe_call (ok_wait_between T) (hr.mono (by decide)) (by rfl) T.p_wait_between.g T.p_wait_between.fn.kp T.p_wait_between.b .nil pass0 (pa_cons (pv 0) (pa_cons (pe_ix (r := rIxL K) ix_list (pv 1) (pv 4) (fun _ _ => rfl)) (pa_cons (pe_ix (r := rIxL K) ix_list (pv 1) (pv 5) (fun _ _ => rfl)) pa_nil))))))))))), ?_⟩
    repeat walk_at "rs"
    refine ⟨m, l, lot, rfl, hl, R, fun H1 s1 => ?_⟩
    repeat walk_at "rs"
    refine ⟨l, o, lot, ns, rfl, hl.same s1, n2, ho.same s1, O, g0, fun H2 s2 => ?_⟩
    have s12 := s1.trans s2
    repeat walk_at "rs"
    refine r_slL (sqe (ho.same s12)) fun d1 hd1 => ?_
    rw [show (1 : Int) = ((1 : Nat) : Int) from rfl, cut_drop, ← List.map_drop]
    have t1 : Same H2 (upd H2 d1 (.lst ((ns.drop 1).map V.int))) := Same.new hd1
    repeat walk_at "rs"
    refine r_slL (sqe (ho.same (s12.trans t1))) fun d2 hd2 => ?_
    rw [cut_take, ← List.map_take]
    have t2 : Same (upd H2 d1 (.lst ((ns.drop 1).map V.int))) (upd (upd H2 d1 (.lst ((ns.drop 1).map V.int))) d2 (.lst ((ns.take 1).map V.int))) := Same.new hd2
    have e1 : (upd (upd H2 d1 (.lst ((ns.drop 1).map V.int))) d2 (.lst ((ns.take 1).map V.int))) d1 = some (.lst ((ns.drop 1).map V.int)) := t2 _ _ upd_same
    have e2 : (upd (upd H2 d1 (.lst ((ns.drop 1).map V.int))) d2 (.lst ((ns.take 1).map V.int))) d2 = some (.lst ((ns.take 1).map V.int)) := upd_same
    have s3 := s12.trans (t1.trans t2)
    revert e1 e2 s3
    generalize upd (upd H2 d1 (.lst ((ns.drop 1).map V.int))) d2 (.lst ((ns.take 1).map V.int)) = H3
    intro e1 e2 s3
    refine r_catR (sqe e1) (sqe e2) (by rw [List.length_map, List.length_map, List.length_drop, List.length_take]; omega) fun d3 hd3 => ?_
    rw [← List.map_append]
    have t3 : Same H3 (upd H3 d3 (.lst ((ns.drop 1 ++ ns.take 1).map V.int))) := Same.new hd3
    have e3 : IntsAt (upd H3 d3 (.lst ((ns.drop 1 ++ ns.take 1).map V.int))) d3 (ns.drop 1 ++ ns.take 1) := upd_same
    have s4 := s3.trans t3
    revert e3 s4
    generalize upd H3 d3 (.lst ((ns.drop 1 ++ ns.take 1).map V.int)) = H4
    intro e3 s4
    repeat walk_at "rs"
    refine ⟨o, d3, _, _, rfl, sqe (ho.same s4), sqe e3, fun D hD => ?_⟩
    have al : (ns.drop 1 ++ ns.take 1).length = ns.length := by
      rw [List.length_append, List.length_drop, List.length_take]
      omega
    have kD : ∀ (h : Hp) (acc' : List V), Same H4 h → Same H4 (upd h D (.lst acc')) := fun h acc' q => same_keep hD q
    refine lc_gen ns.length (by omega) (fun i h => Same H4 h) (fun i v h => ∃ a b, ns[i]? = some a ∧ (ns.drop 1 ++ ns.take 1)[i]? = some b ∧ v = .int (waitP m (nthP lot a) (nthP lot b))) hD (kD _ _ (Same.refl _)) (fun i h acc acc' _ q => kD _ _ q) ?_ ?_ ?_ ?_ ?_
    · intro h sm
      exact ⟨_, _, sqe (ho.same (s4.trans sm)), sqe (e3.same sm), .inl (by rw [List.length_map]; exact Nat.le_refl _)⟩
    · intro i h hi sm
      exact go_zip (sqe (ho.same (s4.trans sm))) (sqe (e3.same sm)) (by rw [List.length_map]; exact hi) (by rw [List.length_map]; omega)
    · rintro i h x h' acc Q' hi sm ha ⟨T1, v1, v2, rfl, nT, rfl, f1, f2⟩ q
      obtain ⟨a, ga, rfl⟩ := ints_get (f1 _ (sqe (ho.same (s4.trans sm))))
      obtain ⟨b, gb, rfl⟩ := ints_get (f2 _ (sqe (e3.same sm)))
      have ra := O.rng a (List.mem_of_getElem? ga)
      have rb : 0 ≤ b ∧ b < lot.length := by
        obtain ⟨b', g', hm⟩ := after_get hi
        rw [g'] at gb
        cases gb
        exact O.rng _ hm
      have sT : Same h (upd h T1 (.tup [.int a, .int b])) := Same.new nT
      have lt := (hl.same (s4.trans sm)).same sT
      obtain ⟨xs1, p1, hx1, at1, ta1⟩ := lt.at ra.1 (by omega)
      obtain ⟨xs2, p2, hx2, at2, ta2⟩ := lt.at rb.1 (by omega)
      refine r_gtup (ste upd_same) rfl ?_
      repeat walk_at "rs"
      refine ⟨rfl, ?_⟩
      repeat walk_at "rs"
      refine r_ixL (sqe hx1) at1 ?_
      repeat walk_at "rs"
      refine r_ixL (sqe hx2) at2 ?_
      repeat walk_at "rs"
      exact ⟨m, p1, p2, _, _, rfl, ta1, ta2, R.w1, q _ _ (sm.trans sT) (sT _ _ ha) (fun _ _ _ r => r) ⟨a, b, ga, gb, rfl⟩⟩
    · intro i y h acc acc' _ r
      exact r
    · intro h acc sm ha hlen hF
      refine k D h (s4.trans sm) (s4.free hD) ?_
      have eq : acc = (waitsF m lot ns).map V.int := by
        refine List.ext_getElem? fun j => ?_
        by_cases hj : j < ns.length
        · obtain ⟨z, gz⟩ := get_of (xs := acc) (i := j) (by omega)
          obtain ⟨a, b, ga, gb, rfl⟩ := hF j z gz
          rw [gz, List.getElem?_map]
          unfold waitsF
          have gz2 : (ns.zip (ns.drop 1 ++ ns.take 1))[j]? = some (a, b) := List.getElem?_zip_eq_some.mpr ⟨ga, gb⟩
          rw [List.getElem?_map, gz2]
          rfl
        · rw [List.getElem?_eq_none (by omega), List.getElem?_eq_none (by rw [List.length_map, waits_len]; omega)]
      rw [eq] at ha
      exact ha
end
end R9
namespace R9
open PySem PySem.Spec PyProof.Rows L2 Rg
local macro_rules | `(tactic| walk_at "rs") => `(tactic| (first
  | with_reducible refine Rg.r_seq ?_ | with_reducible refine Rg.r_asg ?_ | with_reducible refine Rg.r_name ?_ | with_reducible refine Rg.r_drop ?_ | with_reducible refine Rg.r_ret ?_ | with_reducible refine Rg.r_next ?_
  | refine Rg.r_var rfl ?_ | with_reducible refine Rg.r_c ?_ | with_reducible refine Rg.r_op ?_ | with_reducible refine Rg.r_un ?_ | with_reducible refine Rg.r_rU ?_ | with_reducible refine Rg.r_I0 ?_
  | with_reducible refine Rg.r_eqI ?_ | with_reducible refine Rg.r_neI ?_ | with_reducible refine Rg.r_test ?_ | with_reducible refine Rg.r_B ?_ | with_reducible refine Rg.r_bl ?_ | with_reducible refine Rg.r_not ?_ | with_reducible refine Rg.r_and ?_ | with_reducible refine Rg.r_or ?_
  | with_reducible refine Rg.r_andV ?_ | with_reducible refine Rg.r_orV ?_ | with_reducible refine Rg.r_notV ?_ | with_reducible refine Rg.r_if ?_ | with_reducible refine Rg.r_ifE ?_ | with_reducible refine Rg.r_chain ?_
  | with_reducible refine Rg.r_cb ?_ | with_reducible refine Rg.r_call ?_ | with_reducible refine Rg.r_nil ?_ | with_reducible refine Rg.r_cons ?_ | with_reducible refine Rg.r_lst ?_ | with_reducible refine Rg.r_tup ?_ | with_reducible refine Rg.r_sl ?_ | with_reducible refine Rg.r_noP ?_ | with_reducible refine Rg.r_part ?_ | with_reducible refine Rg.r_int ?_
  | with_reducible refine Rg.r_intI ?_ | with_reducible refine Rg.r_intB ?_ | with_reducible refine Rg.r_abs2 ?_ | with_reducible refine Rg.r_mx2 ?_ | with_reducible refine Rg.r_mn2 ?_ | with_reducible refine Rg.r_sub ?_ | with_reducible refine Rg.r_par ?_ | with_reducible refine Rg.r_par2 ?_ | with_reducible refine Rg.r_bm ?_
  | with_reducible refine Rg.r_gcons ?_ | with_reducible refine Rg.r_gnil ?_ | refine Rg.r_aug rfl ?_ | with_reducible refine Rg.r_ip ?_ | with_reducible refine iteT ?_ | with_reducible refine iteF ?_
  | with_reducible refine Rg.r_for ?_ | with_reducible refine Rg.r_lc ?_ | with_reducible refine Rg.r_ilist ?_ | with_reducible refine Rg.r_ienum ?_ | with_reducible refine Rg.r_izip ?_ | with_reducible refine Rg.r_irng1 ?_ | with_reducible refine Rg.r_irng2 ?_))
/-- the sum of the lengths -/
def lens (lot : List (Int × Int)) : List Int := lot.map Prod.snd
section
variable {P : Program} {w : World} {K : PySem.W.Frag} {mg : Str → Option Value} {base : Heap}
/-- the item of a read lot -/
theorem lot_item {H : Hp} {l : Addr} {lot : List (Int × Int)} {xs : List V} {i : Nat} {v : V} (hl : LotAt H l lot) (hx : H l = some (.lst xs)) (g : xs[i]? = some v) : ∃ a p, v = .ref a ∧ lot[i]? = some p ∧ TupAt H a p := by
  have hi : i < xs.length := (List.getElem?_eq_some_iff.mp g).1
  obtain ⟨ys, hy, hn⟩ := hl.seq
  have e : ys = xs := by
    have q := hy.symm.trans hx
    injection q with q
    injection q
  subst e
  have hi2 : i < lot.length := by omega
  obtain ⟨zs, a, hz, gz, ta⟩ := hl.get (List.getElem?_eq_getElem hi2)
  have e2 : zs = ys := by
    have q := hz.symm.trans hx
    injection q with q
    injection q
  subst e2
  exact ⟨a, _, Option.some.inj (g.symm.trans gz), List.getElem?_eq_getElem hi2, ta⟩
def spRounds : Sp := fun vs H Q _ => ∃ (m : Int) (l o : Addr) (lot : List (Int × Int)) (ns : List Int), vs = [.int m, .ref l, .ref o] ∧ LotAt H l lot ∧ RingOk m lot ∧ IntsAt H o ns ∧ OrdOk lot.length ns ∧ ns[0]? = some 0 ∧
  ∀ H', Same H H' → Q (.int (((waitsF m lot ns).sum + (lens lot).sum) / m)) H'
theorem ok_lap_rounds (T : Tx K mg) : FnOk P w K mg base CX0 7 T.a_lap_rounds T.d_lap_rounds P_lap_rounds spRounds := by
  refine T.p_lap_rounds.fn.ok sc_lap_rounds (fun vs H Q E h => ?_) (fun cdv A outer s H vs Q E hr h => ?_)
  · obtain ⟨m, l, o, lot, ns, rfl, _⟩ := h
    rfl
  · obtain ⟨m, l, o, lot, ns, rfl, hl, R, ho, O, g0, k⟩ := h
    have n2 := R.n2
    have w1 := R.w1
    have w2 := R.w2
    refine ⟨_, (pss_cons (ps_set (i := 3) sc_lap_rounds.nd rfl (.inl rfl) (pe_callB (cr_sum rfl) (by rfl) T.n_sum (by rfl) (pa_cons (pe_call (ok_lap_waits T) (hr.mono (by decide)) (by rfl) T.p_lap_waits.g T.p_lap_waits.fn.kp T.p_lap_waits.b .nil pass0 (pa_cons (pv 0) (pa_cons (pv 1) (pa_cons (pv 2) pa_nil)))) pa_nil)))
      (pss_one (ps_ret (pe_op op_fdivW (pe_op op_add (pv 3) (pe_callB (cr_sum rfl) (by rfl) T.n_sum (by rfl) (pa_cons (pe_lc (own := [("_", 4), ("length", 5)]) (tt := tYes) rfl sc_lap_rounds.nd (pi_list (pv 1)) (blkOk_by (N := N_lap_rounds) (sc := defScope s_lap_rounds) (by decide +kernel)) (fun _ _ _ _ _ => by exact (pg_tupK (n := 2) (K := K) rfl rfl (pgs_cons (pg_name (i := 4) sc_lap_rounds.nd rfl (.inl rfl)) (pgs_cons (pg_name (i := 5) sc_lap_rounds.nd rfl (.inl rfl)) pgs_nil)))) (fun _ _ _ _ _ => pts_nil) (fun _ _ _ _ _ => by exact (pv 5))) pa_nil))) (pv 0))))), ?_⟩
    repeat walk_at "rs"
    refine ⟨m, l, o, lot, ns, rfl, hl, R, ho, O, g0, fun q H1 s1 hq hw => ?_⟩
    repeat walk_at "rs"
    refine r_sum (sqe hw) ?_
    repeat walk_at "rs"
    obtain ⟨xs, hx, hn⟩ := (hl.same s1).seq
    refine ⟨l, rfl, ⟨xs, sqe hx⟩, fun D hD => ?_⟩
    have kD : ∀ (h : Hp) (acc' : List V), Same H1 h → Same H1 (upd h D (.lst acc')) := fun h acc' q => same_keep hD q
    refine lc_gen xs.length (by omega) (fun i h => Same H1 h) (fun i v h => ∃ p, lot[i]? = some p ∧ v = .int p.2) hD (kD _ _ (Same.refl _)) (fun i h acc acc' _ q => kD _ _ q) ?_ ?_ ?_ ?_ ?_
    · intro h sm
      exact ⟨xs, sqe (sm _ _ hx), Nat.le_refl _⟩
    · intro i h hi sm
      exact go_list (sqe (sm _ _ hx)) hi
    · rintro i h x h' acc Q' hi sm ha ⟨rfl, f1⟩ q
      obtain ⟨a, p, rfl, gp, ta⟩ := lot_item ((hl.same s1).same sm) (sm _ _ hx) (f1 _ (sqe (sm _ _ hx)))
      refine r_gtup (ste ta) rfl ?_
      repeat walk_at "rs"
      refine ⟨rfl, ?_⟩
      repeat walk_at "rs"
      exact q _ _ sm ha (fun _ _ _ r => r) ⟨p, gp, rfl⟩
    · intro i y h acc acc' _ r
      exact r
    · intro h acc sm ha hlen hF
      have eq : acc = (lens lot).map V.int := by
        refine List.ext_getElem? fun j => ?_
        by_cases hj : j < lot.length
        · obtain ⟨z, gz⟩ := get_of (xs := acc) (i := j) (by omega)
          obtain ⟨p, gp, rfl⟩ := hF j z gz
          unfold lens
          rw [gz, List.getElem?_map, List.getElem?_map, gp]
          rfl
        · rw [List.getElem?_eq_none (by omega), List.getElem?_eq_none (by rw [List.length_map]; unfold lens; rw [List.length_map]; omega)]
      rw [eq] at ha
      repeat walk_at "rs"
      refine r_sum (sqe ha) ?_
      repeat walk_at "rs"
      refine r_I (wide_div (b := 200) (by omega) (by omega) (by decide) (by decide)) ?_
      exact k _ (s1.trans sm)
def spMoved : Sp := fun vs H Q _ => ∃ (m b : Int) (l : Addr) (lot : List (Int × Int)), vs = [.int m, .ref l, .int b] ∧ LotAt H l lot ∧ RingOk m lot ∧
  ∀ q H', Same H H' → H q = none → LotAt H' q (movedF m b lot) → Q (.ref q) H'
theorem lotPairs {H : Hp} {lot : List (Int × Int)} {acc : List V} (hl : acc.length = lot.length) (h : ∀ (j : Nat) (z : V), acc[j]? = some z → ∃ (p : Int × Int) (a : Addr), lot[j]? = some p ∧ z = V.ref a ∧ TupAt H a p) : ∃ as : List Addr, acc = as.map V.ref ∧ Paired (TupAt H) as lot := by
  induction lot generalizing acc with
  | nil =>
    cases acc with
    | nil => exact ⟨[], rfl, .nil⟩
    | cons v r => cases hl
  | cons p lot ih =>
    cases acc with
    | nil => cases hl
    | cons v r =>
      obtain ⟨p', a, e, rfl, ta⟩ := h 0 v List.getElem?_cons_zero
      have ep : p = p' := Option.some.inj e
      subst ep
      obtain ⟨as, rfl, pr⟩ := ih (acc := r) (by simpa using hl) fun j z g => h (j + 1) z g
      exact ⟨a :: as, rfl, .cons ta pr⟩
theorem ok_moved (T : Tx K mg) : FnOk P w K mg base CX0 6 T.a_moved T.d_moved P_moved spMoved := by
  refine T.p_moved.fn.ok sc_moved (fun vs H Q E h => ?_) (fun cdv A outer s H vs Q E hr h => ?_)
  · obtain ⟨m, b, l, lot, rfl, _⟩ := h
    rfl
  · obtain ⟨m, b, l, lot, rfl, hl, R, k⟩ := h
    have n2 := R.n2
    have w1 := R.w1
    refine ⟨_, (pss_cons (ps_expr (pe_call (ok_check_ring T) (hr.mono (by decide)) (by rfl) T.p_check_ring.g T.p_check_ring.fn.kp T.p_check_ring.b .nil pass0 (pa_cons (pv 0) (pa_cons (pv 1) pa_nil))))
      (pss_cons (ps_expr (pe_call (ok_check_integer T) (hr.mono (by decide)) (by rfl) T.p_check_integer.g T.p_check_integer.fn.kp T.p_check_integer.b .nil pass0 (pa_cons (pv 2) pa_nil)))
      (pss_one (ps_ret (pe_lc (own := [("begin", 3), ("length", 4)]) (tt := tYes) rfl sc_moved.nd (pi_list (pv 1)) (blkOk_by (N := N_moved) (sc := defScope s_moved) (by decide +kernel)) (fun _ _ _ _ _ => by exact (pg_tupK (n := 2) (K := K) rfl rfl (pgs_cons (pg_name (i := 3) sc_moved.nd rfl (.inl rfl)) (pgs_cons (pg_name (i := 4) sc_moved.nd rfl (.inl rfl)) pgs_nil)))) (fun _ _ _ _ _ => pts_nil) (fun _ _ _ _ _ => by exact (pe_tup (pa_cons (pe_op op_mod (pe_op op_add (pv 3) (pv 2)) (pv 0)) (pa_cons (pv 4) pa_nil))))))))), ?_⟩
    repeat walk_at "rs"
    refine ⟨m, l, lot, rfl, hl, R, fun H1 s1 => ?_⟩
    repeat walk_at "rs"
    refine ⟨b, rfl, ?_⟩
    repeat walk_at "rs"
    obtain ⟨xs, hx, hn⟩ := (hl.same s1).seq
    refine ⟨l, rfl, ⟨xs, sqe hx⟩, fun D hD => ?_⟩
    have kD : ∀ (h : Hp) (acc' : List V), Same H1 h → Same H1 (upd h D (.lst acc')) := fun h acc' q => same_keep hD q
    refine lc_gen xs.length (by omega) (fun i h => Same H1 h) (fun i v h => ∃ p a, (movedF m b lot)[i]? = some p ∧ v = V.ref a ∧ TupAt h a p) hD (kD _ _ (Same.refl _)) (fun i h acc acc' _ q => kD _ _ q) ?_ ?_ ?_ ?_ ?_
    · intro h sm
      exact ⟨xs, sqe (sm _ _ hx), Nat.le_refl _⟩
    · intro i h hi sm
      exact go_list (sqe (sm _ _ hx)) hi
    · rintro i h x h' acc Q' hi sm ha ⟨rfl, f1⟩ q
      obtain ⟨a, p, rfl, gp, ta⟩ := lot_item ((hl.same s1).same sm) (sm _ _ hx) (f1 _ (sqe (sm _ _ hx)))
      refine r_gtup (ste ta) rfl ?_
      repeat walk_at "rs"
      refine ⟨rfl, ?_⟩
      repeat walk_at "rs"
      refine r_I (by omega) ?_
      repeat walk_at "rs"
      refine ⟨by show 2 ≤ sizeLine; decide, fun t ht => ?_⟩
      have sT : Same h' (upd h' t (.tup [.int ((p.1 + b) % m), .int p.2])) := Same.new ht
      refine q _ _ (sm.trans sT) (sT _ _ ha) (fun j z _ r => ?_) ⟨((p.1 + b) % m, p.2), t, ?_, rfl, upd_same⟩
      · obtain ⟨p', a', g', e', t'⟩ := r
        exact ⟨p', a', g', e', t'.same sT⟩
      · unfold movedF
        rw [List.getElem?_map, gp]
        rfl
    · rintro i y h acc acc' ha ⟨p, a, g, e, ta⟩
      refine ⟨p, a, g, e, ?_⟩
      have ne : a ≠ D := ne_of ta ha (by intro z; cases z)
      show upd h D _ a = _
      rw [upd_ne ne]
      exact ta
    · intro h acc sm ha hlen hF
      have ml : (movedF m b lot).length = lot.length := by
        unfold movedF
        exact List.length_map _
      obtain ⟨as, rfl, pr⟩ := lotPairs (lot := movedF m b lot) (acc := acc) (by omega) hF
      exact k D h (s1.trans sm) (s1.free hD) ⟨as, ha, pr⟩
def spBegins : Sp := fun vs H Q _ => ∃ (m k0 : Int) (l o : Addr) (lot : List (Int × Int)) (ns : List Int), vs = [.int m, .ref l, .int k0, .ref o] ∧ LotAt H l lot ∧ RingOk m lot ∧ 0 ≤ k0 ∧ k0 < m ∧ IntsAt H o ns ∧ OrdOk lot.length ns ∧
  ∀ q H', Same H H' → H q = none → IntsAt H' q (beginsF m lot k0 ns).1 → Q (.ref q) H'
theorem ok_trip_begins (T : Tx K mg) : FnOk P w K mg base CX0 6 T.a_trip_begins T.d_trip_begins P_trip_begins spBegins := by
  refine T.p_trip_begins.fn.ok sc_trip_begins (fun vs H Q E h => ?_) (fun cdv A outer s H vs Q E hr h => ?_)
  · obtain ⟨m, k0, l, o, lot, ns, rfl, _⟩ := h
    rfl
  · obtain ⟨m, k0, l, o, lot, ns, rfl, hl, R, b0, b1, ho, O, k⟩ := h
    have n2 := R.n2
    have w1 := R.w1
    have ol := O.len
    refine ⟨_, (pss_cons (ps_expr (pe_call (ok_check_ring T) (hr.mono (by decide)) (by rfl) T.p_check_ring.g T.p_check_ring.fn.kp T.p_check_ring.b .nil pass0 (pa_cons (pv 0) (pa_cons (pv 1) pa_nil))))
      (pss_cons (ps_expr (pe_call (ok_check_mark T) (hr.mono (by decide)) (by rfl) T.p_check_mark.g T.p_check_mark.fn.kp T.p_check_mark.b .nil pass0 (pa_cons (pv 0) (pa_cons (pv 2) pa_nil))))
      (pss_cons (ps_expr (pe_call (ok_check_trip T) (hr.mono (by decide)) (by rfl) T.p_check_trip.g T.p_check_trip.fn.kp T.p_check_trip.b .nil pass0 (pa_cons (pv 1) (pa_cons (pv 3) pa_nil))))
      (pss_cons (ps_set (i := 4) sc_trip_begins.nd rfl (.inl rfl) (pe_lst pa_nil))
      (pss_cons (ps_set (i := 5) sc_trip_begins.nd rfl (.inl rfl) pe_int)
      (pss_cons (ps_for PassesOwn.never rfl (pi_list (pv 3)) (pg_name (i := 6) sc_trip_begins.nd rfl (.inl rfl)) (pss_cons (ps_asg (pe_ix ix_list (pv 1) (pv 6) (fun _ _ => rfl)) (pg_tup (n := 2) rfl (pgs_cons (pg_name (i := 7) sc_trip_begins.nd rfl (.inl rfl)) (pgs_cons (pg_name (i := 8) sc_trip_begins.nd rfl (.inl rfl)) pgs_nil))))
      (pss_cons (ps_aug (i := 5) sc_trip_begins.nd rfl (.inl rfl) (pe_op op_mod (pe_op op_sub (pe_op op_sub (pv 7) (pv 2)) (pv 5)) (pv 0)) ip_add)
      (pss_cons (ps_expr (pe_bm PySem.F.plainAttrs_list PySem.F.slot_list_append PySem.F.type_list_append mt_append (pv 4) (pa_cons (pv 5) pa_nil)))
      (pss_one (ps_aug (i := 5) sc_trip_begins.nd rfl (.inl rfl) (pv 8) ip_add))))))
      (pss_one (ps_ret (pv 4))))))))), ?_⟩
    repeat walk_at "rs"
    refine ⟨m, l, lot, rfl, hl, R, fun H1 s1 => ?_⟩
    repeat walk_at "rs"
    refine ⟨m, k0, rfl, b0, b1, ?_⟩
    repeat walk_at "rs"
    refine ⟨l, o, lot, ns, rfl, hl.same s1, n2, ho.same s1, O, fun H2 s2 => ?_⟩
    have s12 := s1.trans s2
    repeat walk_at "rs"
    refine ⟨by decide, fun D hD => ?_⟩
    repeat walk_at "rs"
    have sD : Same H2 (upd H2 D (.lst [])) := Same.new hD
    refine ⟨o, rfl, ⟨_, sqe (ho.same (s12.trans sD))⟩, ?_⟩
    have ml : (ns.map V.int).length = ns.length := List.length_map _
    refine for_gen (ns.map V.int).length (fun i σ H' => ∃ y6 y7 y8, σ = [some (.int m), some (.ref l), some (.int k0), some (.ref o), some (.ref D), some (.int (beginsF m lot k0 (ns.take i)).2), y6, y7, y8] ∧ Same H2 H' ∧
      H' D = some (.lst ((beginsF m lot k0 (ns.take i)).1.map V.int))) ⟨none, none, none, rfl, sD, upd_same⟩ ?_ ?_ ?_ ?_
    · rintro σ H' ⟨y6, y7, y8, rfl, sm, eD⟩
      exact ⟨_, sqe (ho.same (s12.trans sm)), Nat.le_refl _⟩
    · rintro i σ H' hi ⟨y6, y7, y8, rfl, sm, eD⟩
      exact go_list (sqe (ho.same (s12.trans sm))) hi
    · rintro i σ H' x H'' hi ⟨y6, y7, y8, rfl, sm, eD⟩ ⟨rfl, f⟩
      obtain ⟨kk, gk, rfl⟩ := ints_get (f _ (sqe (ho.same (s12.trans sm))))
      have rk := O.rng kk (List.mem_of_getElem? gk)
      obtain ⟨xs, a, hx, at1, ta⟩ := (hl.same (s12.trans sm)).at rk.1 (by omega)
      have bl : (beginsF m lot k0 (ns.take i)).1.length ≤ 30 := by
        rw [beginsF_len, List.length_take]
        omega
      repeat walk_at "rs"
      refine r_ixL (sqe hx) at1 ?_
      repeat walk_at "rs"
      refine r_gtup (ste ta) rfl ?_
      repeat walk_at "rs"
      refine r_I (by omega) ?_
      repeat walk_at "rs"
      refine ⟨.inl ⟨rfl, _, sqe eD⟩, ?_⟩
      repeat walk_at "rs"
      refine r_app eD (by rw [List.length_map]; omega) ?_
      repeat walk_at "rs"
      refine ⟨some (.int kk), some (.int (nthP lot kk).1), some (.int (nthP lot kk).2), ?_, same_keep hD sm, ?_⟩
      · rw [beginsF_more gk]
        rfl
      · rw [beginsF_more gk, upd_same]
        show _ = some (HO.lst (((beginsF m lot k0 (ns.take i)).1 ++ [_]).map V.int))
        rw [List.map_append]
        rfl
    · rintro σ H' ⟨y6, y7, y8, rfl, sm, eD⟩
      rw [ml, List.take_length] at eD
      repeat walk_at "rs"
      exact k D H' (s12.trans sm) (s12.free hD) eD
end
end R9
namespace R9
open PySem PySem.Spec PyProof.Rows L2 Rg
local macro_rules | `(tactic| walk_at "rs") => `(tactic| (first
  | with_reducible refine Rg.r_seq ?_ | with_reducible refine Rg.r_asg ?_ | with_reducible refine Rg.r_name ?_ | with_reducible refine Rg.r_drop ?_ | with_reducible refine Rg.r_ret ?_ | with_reducible refine Rg.r_next ?_
  | refine Rg.r_var rfl ?_ | with_reducible refine Rg.r_c ?_ | with_reducible refine Rg.r_op ?_ | with_reducible refine Rg.r_un ?_ | with_reducible refine Rg.r_rU ?_ | with_reducible refine Rg.r_I0 ?_
  | with_reducible refine Rg.r_eqI ?_ | with_reducible refine Rg.r_neI ?_ | with_reducible refine Rg.r_test ?_ | with_reducible refine Rg.r_B ?_ | with_reducible refine Rg.r_bl ?_ | with_reducible refine Rg.r_not ?_ | with_reducible refine Rg.r_and ?_ | with_reducible refine Rg.r_or ?_
  | with_reducible refine Rg.r_andV ?_ | with_reducible refine Rg.r_orV ?_ | with_reducible refine Rg.r_notV ?_ | with_reducible refine Rg.r_if ?_ | with_reducible refine Rg.r_ifE ?_ | with_reducible refine Rg.r_chain ?_
  | with_reducible refine Rg.r_cb ?_ | with_reducible refine Rg.r_call ?_ | with_reducible refine Rg.r_nil ?_ | with_reducible refine Rg.r_cons ?_ | with_reducible refine Rg.r_lst ?_ | with_reducible refine Rg.r_tup ?_ | with_reducible refine Rg.r_sl ?_ | with_reducible refine Rg.r_noP ?_ | with_reducible refine Rg.r_part ?_ | with_reducible refine Rg.r_int ?_
  | with_reducible refine Rg.r_intI ?_ | with_reducible refine Rg.r_intB ?_ | with_reducible refine Rg.r_abs2 ?_ | with_reducible refine Rg.r_mx2 ?_ | with_reducible refine Rg.r_mn2 ?_ | with_reducible refine Rg.r_sub ?_ | with_reducible refine Rg.r_par ?_ | with_reducible refine Rg.r_par2 ?_ | with_reducible refine Rg.r_bm ?_
  | with_reducible refine Rg.r_gcons ?_ | with_reducible refine Rg.r_gnil ?_ | refine Rg.r_aug rfl ?_ | with_reducible refine Rg.r_ip ?_ | with_reducible refine iteT ?_ | with_reducible refine iteF ?_
  | with_reducible refine Rg.r_for ?_ | with_reducible refine Rg.r_lc ?_ | with_reducible refine Rg.r_ilist ?_ | with_reducible refine Rg.r_ienum ?_ | with_reducible refine Rg.r_izip ?_ | with_reducible refine Rg.r_irng1 ?_ | with_reducible refine Rg.r_irng2 ?_))
/-! ### the law's helpers -/
theorem nth_last {ns : List Int} {k : Int} (h : ns.getLast? = some k) : atI (ns.map V.int) (-1) = some (.int k) := by
  cases hn : ns.length with
  | zero =>
    have e : ns = [] := List.eq_nil_of_length_eq_zero hn
    subst e
    cases h
  | succ n =>
    unfold atI ixN
    rw [if_neg (by decide), List.length_map, if_pos (by omega)]
    show (ns.map V.int)[((-1 : Int) + (ns.length : Int)).toNat]? = _
    have e : ((-1 : Int) + (ns.length : Int)).toNat = ns.length - 1 := by omega
    rw [e, List.getElem?_map, ← List.getLast?_eq_getElem?, h]
    rfl
/-- the last begin and the last length are the end -/
theorem begins_last (w m : Int) (lot : List (Int × Int)) {ns : List Int} {k : Int} (h : ns.getLast? = some k) : ∃ b, (beginsF w lot m ns).1.getLast? = some b ∧ b + (nthP lot k).2 = (beginsF w lot m ns).2 := by
  have hl : ns ≠ [] := fun e => by
    subst e
    cases h
  obtain ⟨r, rfl⟩ := List.getLast?_eq_some_iff.mp h
  unfold beginsF
  rw [List.foldl_append]
  refine ⟨_, ?_, rfl⟩
  show (_ ++ [_]).getLast? = _
  rw [List.getLast?_concat]
section
variable {P : Program} {w : World} {K : PySem.W.Frag} {mg : Str → Option Value} {base : Heap}
def spTicks : Sp := fun vs H Q _ => ∃ (m k0 : Int) (l o : Addr) (lot : List (Int × Int)) (ns : List Int), vs = [.int m, .ref l, .int k0, .ref o] ∧ LotAt H l lot ∧ RingOk m lot ∧ 0 ≤ k0 ∧ k0 < m ∧ IntsAt H o ns ∧ OrdOk lot.length ns ∧
  ∀ H', Same H H' → Q (.int (beginsF m lot k0 ns).2) H'
theorem ok_trip_ticks (T : Tx K mg) : FnOk P w K mg base CX0 7 T.a_trip_ticks T.d_trip_ticks P_trip_ticks spTicks := by
  refine T.p_trip_ticks.fn.ok sc_trip_ticks (fun vs H Q E h => ?_) (fun cdv A outer s H vs Q E hr h => ?_)
  · obtain ⟨m, k0, l, o, lot, ns, rfl, _⟩ := h
    rfl
  · obtain ⟨m, k0, l, o, lot, ns, rfl, hl, R, b0, b1, ho, O, k⟩ := h
    have n1 := R.n1
    have ol := O.len
    obtain ⟨kk, gk⟩ : ∃ kk, ns.getLast? = some kk := by
      cases e : ns.getLast? with
      | some kk => exact ⟨kk, rfl⟩
      | none =>
        rw [List.getLast?_eq_none_iff] at e
        subst e
        exact absurd ol (by simp; omega)
    have rk := O.rng kk (List.mem_of_getLast? gk)
    obtain ⟨b, gb, eb⟩ := begins_last m k0 lot gk
    refine ⟨_, (pss_cons (ps_set (i := 4) sc_trip_ticks.nd rfl (.inl rfl) (pe_call (ok_trip_begins T) (hr.mono (by decide)) (by rfl) T.p_trip_begins.g T.p_trip_begins.fn.kp T.p_trip_begins.b .nil pass0 (pa_cons (pv 0) (pa_cons (pv 1) (pa_cons (pv 2) (pa_cons (pv 3) pa_nil))))))
      (pss_one (ps_ret (pe_op op_add (pe_ix ix_list (pv 4) (pe_un un_neg pe_int) (fun _ _ => rfl)) (pe_ix ix_tup (pe_ix ix_list (pv 1) (pe_ix ix_list (pv 3) (pe_un un_neg pe_int) (fun _ _ => rfl)) (fun _ _ => rfl)) pe_int (fun _ _ => rfl)))))), ?_⟩
    repeat walk_at "rs"
    refine ⟨m, k0, l, o, lot, ns, rfl, hl, R, b0, b1, ho, O, fun q H1 s1 hq hw => ?_⟩
    repeat walk_at "rs"
    refine r_ixL (sqe hw) (nth_last gb) ?_
    repeat walk_at "rs"
    refine r_ixL (sqe (ho.same s1)) (nth_last gk) ?_
    obtain ⟨xs, a, hx, at1', ta⟩ := (hl.same s1).at rk.1 (by omega)
    refine r_ixL (sqe hx) at1' ?_
    repeat walk_at "rs"
    refine r_ixT (ste ta) at1 ?_
    repeat walk_at "rs"
    show Q (V.int (b + (nthP lot kk).2)) H1
    rw [eb]
    exact k _ s1
/-- int(cell), int(k): the source is new -/
def spSource : Sp := fun vs H Q _ => ∃ c k : Int, vs = [.int c, .int k] ∧ 0 ≤ k ∧ k < 1000 ∧ ∀ p H', Same H H' → H p = none → Src p 0 H' → Q (.ref p) H'
theorem ok_law_source (T : Tx K mg) : FnOk P w K mg base CX0 1 T.a_law_source T.d_law_source P_law_source spSource := by
  refine T.p_law_source.fn.ok sc_law_source (fun vs H Q E h => ?_) (fun cdv A outer s H vs Q E hr h => ?_)
  · obtain ⟨c, k, rfl, _⟩ := h
    rfl
  · obtain ⟨c, n, rfl, h0, h1, k⟩ := h
    refine ⟨_, (pss_cons (ps_set (i := 2) sc_law_source.nd rfl (.inl rfl) (pe_callB call_abs2 (by rfl) T.n_abs (by rfl) (pa_cons (pv 0) pa_nil)))
      (pss_one (ps_ret (pe_lst (pa_cons (pe_callB (call_mx2 rfl) (by rfl) T.n_max (by rfl) (pa_cons pe_int (pa_cons (pe_op op_sub (pv 2) (pe_op op_powW pe_int pe_int)) pa_nil))) (pa_cons (pe_op op_add (pe_op op_add (pe_op op_mulW (pe_op op_mod (pe_callTy call_intI (by rfl) T.n_int (by rfl) (pa_cons (pv 2) pa_nil)) (pe_op op_add (pe_op op_powW pe_int pe_int) pe_int)) pe_int) (pe_op op_mulW pe_int (pv 1))) (pe_callTy call_intB (by rfl) T.n_int (by rfl) (pa_cons (pe_cmpR op_lt (pv 0) pe_int (nomark _)) pa_nil))) (pa_cons pe_int pa_nil))))))), ?_⟩
    repeat walk_at "rs"
    refine r_I (cpow 18 (by decide) (n := 10) (by decide) (by decide)) ?_
    repeat walk_at "rs"
    refine r_I (cpow 44 (by decide) (n := 10) (by decide) (by decide)) ?_
    repeat walk_at "rs"
    refine r_I (by decide) ?_
    generalize (if c < 0 then -c else c) = g
    have m1 := Int.emod_nonneg g (b := 10 ^ Int.toNat 44 + 31) (by decide)
    have m2 := Int.emod_lt_of_pos g (b := 10 ^ Int.toNat 44 + 31) (by decide)
    generalize g % (10 ^ Int.toNat 44 + 31) = r at m1 m2 ⊢
    have m3 : r < 2 ^ 200 := Int.lt_of_lt_of_le m2 (by decide)
    repeat walk_at "rs"
    refine r_I (wide_mul (a := 200) (b := 10) (by omega) (by decide) (by decide) (by decide) (by decide)) ?_
    repeat walk_at "rs"
    refine r_I (wide_mul (a := 10) (b := 10) (by decide) (by omega) (by decide) (by decide) (by decide)) ?_
    repeat walk_at "rs"
    refine ⟨by show 3 ≤ sizeLine; decide, fun p hp => ?_⟩
    refine k p _ (Same.new hp) hp ⟨_, _, _, upd_same, ?_, ?_, by omega, by omega⟩
    · split <;> omega
    · split <;> omega
def Pm (xs ys : List Int) : Prop := xs.Perm ys
/-- mixed: some arrangement; the source went on -/
def spMixed : Sp := fun vs H Q _ => ∃ (a l : Addr) (N : Nat) (ns : List Int), vs = [.ref a, .ref l] ∧ Src a N H ∧ IntsAt H l ns ∧ a ≠ l ∧ ns.length ≤ 30 ∧ N + 30 < 10 ^ 9 ∧
  ∀ p H' ms, Sx a H H' → Src a (N + 30) H' → H p = none → IntsAt H' p ms → ms.Perm ns → Q (.ref p) H'
theorem perm_erase : ∀ {ns : List Int} {j : Nat} {x : Int}, ns[j]? = some x → (x :: ns.eraseIdx j).Perm ns
  | [], j, x, h => by simp at h
  | a :: r, 0, x, h => by
    have e : a = x := Option.some.inj h
    subst e
    exact List.Perm.refl _
  | a :: r, j + 1, x, h => by
    have ih := perm_erase (ns := r) (j := j) (x := x) h
    exact (List.Perm.swap a x (r.eraseIdx j)).trans (List.Perm.cons a ih)
theorem map_erase : ∀ (ns : List Int) (j : Nat), (ns.map V.int).eraseIdx j = (ns.eraseIdx j).map V.int
  | [], _ => rfl
  | _ :: _, 0 => rfl
  | a :: r, j + 1 => congrArg (List.cons (V.int a)) (map_erase r j)
/-- the word of the loop: what is left and what was found are some arrangement of what came -/
def MixW (a l d f : Addr) (H0 : Hp) (N : Nat) (ns : List Int) (m : Nat) (σ : L2.St) (H : Hp) : Prop := ∃ left fnd : List Int, σ = [some (.ref a), some (.ref l), some (.ref d), some (.ref f)] ∧ IntsAt H d left ∧ IntsAt H f fnd ∧
  left.length = m ∧ (left ++ fnd).Perm ns ∧ Sx a H0 H ∧ Src a (N + fnd.length) H
theorem eqv_ints : ∀ ns ms : List Int, PyData.eqv (.list (ns.map PyData.int)) (.list (ms.map PyData.int)) = decide (ns = ms) := by
  have go : ∀ ns ms : List Int, PyData.eqvAll (ns.map PyData.int) (ms.map PyData.int) = decide (ns = ms) := by
    intro ns
    induction ns with
    | nil =>
      intro ms
      cases ms with
      | nil => simp [PyData.eqvAll]
      | cons b r => simp [PyData.eqvAll]
    | cons a r ih =>
      intro ms
      cases ms with
      | nil => simp [PyData.eqvAll]
      | cons b q =>
        rw [List.map_cons, List.map_cons]
        show (PyData.eqv (.int a) (.int b) && PyData.eqvAll (r.map PyData.int) (q.map PyData.int)) = _
        rw [ih]
        have e : PyData.eqv (.int a) (.int b) = (a == b) := by simp [PyData.eqv]
        rw [e]
        by_cases h : a = b
        · subst h
          simp
        · simp [h]
  intro ns ms
  show PyData.eqv (.list _) (.list _) = _
  rw [← go]
  simp [PyData.eqv]
theorem dp_ints {K : PySem.W.Frag} {H : Hp} {l : Addr} {ns : List Int} (h : SqL K H l (ns.map V.int)) : Dp K H (.ref l) (.list (ns.map PyData.int)) := by
  refine .lst h ?_
  induction ns generalizing l with
  | nil => exact .nil
  | cons a r ih =>
    have go : ∀ qs : List Int, DpAll K H (qs.map V.int) (qs.map PyData.int) := fun qs => by
      induction qs with
      | nil => exact .nil
      | cons b q ih => exact .cons (.int b) ih
    exact go (a :: r)
theorem r_neInts {K : PySem.W.Frag} {H : Hp} {Q : VK} {p q : Addr} {ns ms : List Int} (h1 : SqL K H p (ns.map V.int)) (h2 : SqL K H q (ms.map V.int)) (k : Q (.bl (!decide (ns = ms))) H) : rNeD K (.ref p) (.ref q) H Q :=
  ⟨_, _, dp_ints h1, dp_ints h2, PySem.W.ke_shaped_ints ns, PySem.W.ke_shaped_ints ms, by rw [eqv_ints]; exact k⟩
theorem r_eqInts {K : PySem.W.Frag} {H : Hp} {Q : VK} {p q : Addr} {ns ms : List Int} (h1 : SqL K H p (ns.map V.int)) (h2 : SqL K H q (ms.map V.int)) (k : Q (.bl (decide (ns = ms))) H) : rEqD K (.ref p) (.ref q) H Q :=
  ⟨_, _, dp_ints h1, dp_ints h2, PySem.W.ke_shaped_ints ns, PySem.W.ke_shaped_ints ms, by rw [eqv_ints]; exact k⟩
theorem seqIx {n : Nat} {i : Int} {j : Nat} (e : i = (j : Int)) (h : j < n) : seqIndex? i n = some j := by
  subst e
  have q : ixN n (j : Int) = some j := by
    unfold ixN
    rw [if_pos (Int.natCast_nonneg j), if_pos (by omega), Int.toNat_natCast]
  exact (ixN_seq q).1
theorem ok_law_mixed (T : Tx K mg) : FnOk P w K mg base CX0 2 T.a_law_mixed T.d_law_mixed P_law_mixed spMixed := by
  refine T.p_law_mixed.fn.ok sc_law_mixed (fun vs H Q E h => ?_) (fun cdv A outer s H vs Q E hr h => ?_)
  · obtain ⟨a, l, N, ns, rfl, _⟩ := h
    rfl
  · obtain ⟨a, l, N, ns, rfl, hs, hl, nal, h30, hN, k⟩ := h
    refine ⟨_, (pss_cons (ps_par (i := 2) (j := 3) rfl sc_law_mixed.nd rfl rfl (by decide) rfl rfl (pa_cons (pe_callTy call_lst2 (by rfl) T.n_list (by rfl) (pa_cons (pv 1) pa_nil)) (pa_cons (pe_lst pa_nil) pa_nil)) (by rfl))
      (pss_cons (ps_while PassesOwn.never (pt_cmpR (op_neD (hu64 hr)) (pv 2) (pe_lst pa_nil) (nomark _)) (pss_one (ps_expr (pe_bm PySem.F.plainAttrs_list PySem.F.slot_list_append PySem.F.type_list_append mt_append (pv 3) (pa_cons (pe_bm PySem.F.plainAttrs_list PySem.F.slot_list_pop PySem.F.type_list_pop mt_popAt (pv 2) (pa_cons (pe_call (ok_law_draw T) (hr.mono (by decide)) (by rfl) T.p_law_draw.g T.p_law_draw.fn.kp T.p_law_draw.b .nil pass0 (pa_cons (pv 0) (pa_cons (pe_callB call_len2 (by rfl) T.n_len (by rfl) (pa_cons (pv 2) pa_nil)) pa_nil))) pa_nil)) pa_nil)))))
      (pss_one (ps_ret (pv 3))))), ?_⟩
    repeat walk_at "rs"
    refine r_lst2 (.inl (sqe hl)) fun d hd => ?_
    repeat walk_at "rs"
    refine ⟨by decide, fun f hf => ?_⟩
    repeat walk_at "rs"
    have sd : Same H (upd H d (.lst (ns.map V.int))) := Same.new hd
    have sf : Same (upd H d (.lst (ns.map V.int))) (upd (upd H d (.lst (ns.map V.int))) f (.lst [])) := Same.new hf
    have ed : IntsAt (upd (upd H d (.lst (ns.map V.int))) f (.lst [])) d ns := sf _ _ upd_same
    have ef : IntsAt (upd (upd H d (.lst (ns.map V.int))) f (.lst [])) f [] := upd_same
    have s2 := sd.trans sf
    have hf0 : H f = none := sd.free hf
    have ndf : d ≠ f := fun e => by
      rw [e] at ed
      rw [← e, upd_same] at hf
      cases hf
    revert ed ef s2
    generalize upd (upd H d (.lst (ns.map V.int))) f (.lst []) = H2
    intro ed ef s2
    have hsa := hs
    obtain ⟨x0, y0, z0, ha0, _⟩ := hsa
    have nad : a ≠ d := ne_of_none ha0 hd
    have naf : a ≠ f := ne_of_none ha0 hf0
    refine ⟨fun m σ H' => MixW a l d f H N ns m σ H', ⟨ns.length, ns, [], rfl, ed, ef, rfl, by rw [List.append_nil], Sx.of s2, (hs.same s2).le (Nat.le_refl _)⟩, fun m σ H' hw => ?_⟩
    obtain ⟨left, fnd, rfl, hld, hlf, hm, hp, sx, sr⟩ := hw
    have hlen : left.length + fnd.length = ns.length := by
      rw [← hp.length_eq, List.length_append]
    repeat walk_at "rs"
    refine ⟨by decide, fun e he => ?_⟩
    have se : Same H' (upd H' e (.lst [])) := Same.new he
    refine r_neInts (ms := []) (sqe (hld.same se)) (sqe upd_same) ?_
    repeat walk_at "rs"
    refine ite2 (fun c => ?_) (fun c => ?_)
    · have hne : left ≠ [] := by simpa using c
      have hpos : 0 < left.length := List.length_pos_iff.mpr hne
      refine ⟨fun σ' H'' => MixW a l d f H N ns (m - 1) σ' H'', fun σ' H'' q => ⟨m - 1, by omega, q⟩, ?_⟩
      have hld2 := hld.same se
      have hlf2 := hlf.same se
      have sr2 := sr.same se
      have sx2 := sx.trans (Sx.of se)
      revert hld2 hlf2 sr2 sx2
      generalize upd H' e (.lst []) = H3
      intro hld2 hlf2 sr2 sx2
      repeat walk_at "rs"
      refine ⟨.inl ⟨rfl, _, sqe hlf2⟩, ?_⟩
      repeat walk_at "rs"
      refine ⟨.inl ⟨rfl, _, sqe hld2⟩, ?_⟩
      repeat walk_at "rs"
      refine r_len2 (.inl (sqe hld2)) ?_
      repeat walk_at "rs"
      rw [List.length_map]
      refine ⟨a, _, _, rfl, sr2, by omega, by omega, by omega, fun r H4 r0 r1 sx4 sr4 => ?_⟩
      have hld4 : IntsAt H4 d left := sx4 _ _ nad.symm hld2
      have hlf4 : IntsAt H4 f fnd := sx4 _ _ naf.symm hlf2
      repeat walk_at "rs"
      have hr2 : r.toNat < left.length := by omega
      have gr := List.getElem?_eq_getElem hr2
      refine ⟨d, _, r, r.toNat, _, rfl, rfl, hld4, by omega, by omega, seqIx (by omega) (by rw [List.length_map]; exact hr2), by rw [List.getElem?_map, gr]; rfl, ?_⟩
      have hlf5 : (upd H4 d (.lst ((left.map V.int).eraseIdx r.toNat))) f = some (.lst (fnd.map V.int)) := by
        rw [upd_ne ndf.symm]
        exact hlf4
      repeat walk_at "rs"
      refine r_app hlf5 (by rw [List.length_map]; omega) ?_
      repeat walk_at "rs"
      refine ⟨left.eraseIdx r.toNat, fnd ++ [left[r.toNat]], rfl, ?_, ?_, ?_, ?_, ?_, ?_⟩
      · unfold IntsAt
        rw [upd_ne ndf, upd_same, map_erase]
      · unfold IntsAt
        rw [upd_same, List.map_append]
        rfl
      · rw [List.length_eraseIdx_of_lt hr2]
        omega
      · have q1 := perm_erase gr
        have q2 : (left.eraseIdx r.toNat ++ (fnd ++ [left[r.toNat]])).Perm (left[r.toNat] :: left.eraseIdx r.toNat ++ fnd) := by
          rw [← List.append_assoc]
          exact List.perm_append_singleton _ _
        exact q2.trans ((q1.append_right fnd).trans hp)
      · intro b o nb hb
        have nbd : b ≠ d := ne_of_none hb hd
        have nbf : b ≠ f := ne_of_none hb hf0
        rw [upd_ne nbf, upd_ne nbd]
        exact sx4 b o nb (sx2 b o nb hb)
      · obtain ⟨x, y, z, q, r⟩ := sr4
        refine ⟨x, y, z, ?_, ?_⟩
        · rw [upd_ne naf, upd_ne nad]
          exact q
        · rw [List.length_append, List.length_singleton, ← Nat.add_assoc]
          exact r
    · have hnil : left = [] := by simpa using c
      subst hnil
      repeat walk_at "rs"
      exact k f _ fnd (sx.trans (Sx.of se)) ((sr.same se).le (by simp at hlen; omega)) hf0 (hlf.same se) (by simpa using hp)
end
end R9
namespace R9
open PySem PySem.Spec PyProof.Rows L2 Rg
local macro_rules | `(tactic| walk_at "rs") => `(tactic| (first
  | with_reducible refine Rg.r_seq ?_ | with_reducible refine Rg.r_asg ?_ | with_reducible refine Rg.r_name ?_ | with_reducible refine Rg.r_drop ?_ | with_reducible refine Rg.r_ret ?_ | with_reducible refine Rg.r_next ?_
  | refine Rg.r_var rfl ?_ | with_reducible refine Rg.r_c ?_ | with_reducible refine Rg.r_op ?_ | with_reducible refine Rg.r_un ?_ | with_reducible refine Rg.r_rU ?_ | with_reducible refine Rg.r_I0 ?_
  | with_reducible refine Rg.r_eqI ?_ | with_reducible refine Rg.r_neI ?_ | with_reducible refine Rg.r_test ?_ | with_reducible refine Rg.r_B ?_ | with_reducible refine Rg.r_bl ?_ | with_reducible refine Rg.r_not ?_ | with_reducible refine Rg.r_and ?_ | with_reducible refine Rg.r_or ?_
  | with_reducible refine Rg.r_andV ?_ | with_reducible refine Rg.r_orV ?_ | with_reducible refine Rg.r_notV ?_ | with_reducible refine Rg.r_if ?_ | with_reducible refine Rg.r_ifE ?_ | with_reducible refine Rg.r_chain ?_
  | with_reducible refine Rg.r_cb ?_ | with_reducible refine Rg.r_call ?_ | with_reducible refine Rg.r_nil ?_ | with_reducible refine Rg.r_cons ?_ | with_reducible refine Rg.r_lst ?_ | with_reducible refine Rg.r_tup ?_ | with_reducible refine Rg.r_sl ?_ | with_reducible refine Rg.r_noP ?_ | with_reducible refine Rg.r_part ?_ | with_reducible refine Rg.r_int ?_
  | with_reducible refine Rg.r_intI ?_ | with_reducible refine Rg.r_intB ?_ | with_reducible refine Rg.r_abs2 ?_ | with_reducible refine Rg.r_mx2 ?_ | with_reducible refine Rg.r_mn2 ?_ | with_reducible refine Rg.r_sub ?_ | with_reducible refine Rg.r_par ?_ | with_reducible refine Rg.r_par2 ?_ | with_reducible refine Rg.r_bm ?_
  | with_reducible refine Rg.r_gcons ?_ | with_reducible refine Rg.r_gnil ?_ | refine Rg.r_aug rfl ?_ | with_reducible refine Rg.r_ip ?_ | with_reducible refine iteT ?_ | with_reducible refine iteF ?_
  | with_reducible refine Rg.r_for ?_ | with_reducible refine Rg.r_lc ?_ | with_reducible refine Rg.r_ilist ?_ | with_reducible refine Rg.r_ienum ?_ | with_reducible refine Rg.r_izip ?_ | with_reducible refine Rg.r_irng1 ?_ | with_reducible refine Rg.r_irng2 ?_))
theorem r_cut {t u : TS} {σ : L2.St} {H : Hp} {nx : L2.St → Hp → Prop} {rt : VK} {bk ct : L2.St → Hp → Prop} (Mid : L2.St → Hp → Prop) (h1 : t ⟨Mid, rt, bk, ct⟩ σ H) (h2 : ∀ σ' H', Mid σ' H' → u ⟨nx, rt, bk, ct⟩ σ' H') : Evl.tCut t u ⟨nx, rt, bk, ct⟩ σ H := ⟨Mid, h1, h2⟩
theorem smallc {c : Int} (h : c.natAbs < 2 ^ 200) : c.natAbs < 2 ^ 8000 := Nat.lt_of_lt_of_le h (Nat.pow_le_pow_right (by decide) (by decide))
def lensO (lot : List (Int × Int)) (ns : List Int) : List Int := ns.map fun k => (nthP lot k).2
theorem after_mod {ns : List Int} {i : Nat} (hi : i < ns.length) : (ns.drop 1 ++ ns.take 1)[i]? = ns[(i + 1) % ns.length]? := by
  by_cases h : i + 1 < ns.length
  · rw [Nat.mod_eq_of_lt h, List.getElem?_append_left (by rw [List.length_drop]; omega), List.getElem?_drop, Nat.add_comm]
  · have e : i + 1 = ns.length := by omega
    rw [e, Nat.mod_self, List.getElem?_append_right (by rw [List.length_drop]; omega), List.length_drop]
    have e2 : i - (ns.length - 1) = 0 := by omega
    rw [e2, List.getElem?_take_of_lt (by decide)]
section
variable {P : Program} {w : World} {K : PySem.W.Frag} {mg : Str → Option Value} {base : Heap}
def spLRounds : Sp := fun vs H Q _ => ∃ (m : Int) (l o : Addr) (lot : List (Int × Int)) (ns : List Int), vs = [.int m, .ref l, .ref o] ∧ LotAt H l lot ∧ RingOk m lot ∧ IntsAt H o ns ∧ OrdOk lot.length ns ∧
  ∀ H', Same H H' → Q (.int (((waitsF m lot ns).sum + (lensO lot ns).sum) / m)) H'
theorem ok_law_rounds (T : Tx K mg) : FnOk P w K mg base CX0 2 T.a_law_rounds T.d_law_rounds P_law_rounds spLRounds := by
  refine T.p_law_rounds.fn.ok sc_law_rounds (fun vs H Q E h => ?_) (fun cdv A outer s H vs Q E hr h => ?_)
  · obtain ⟨m, l, o, lot, ns, rfl, _⟩ := h
    rfl
  · obtain ⟨m, l, o, lot, ns, rfl, hl, R, ho, O, k⟩ := h
    have n1 := R.n1
    have n2 := R.n2
    have w1 := R.w1
    have w2 := R.w2
    have ol := O.len
    have ml : (ns.map V.int).length = ns.length := List.length_map _
    refine ⟨_, (pss_cons (ps_set (i := 3) sc_law_rounds.nd rfl (.inl rfl) pe_int)
      (pss_cons (ps_for PassesOwn.never rfl (pi_enum (by rfl) T.n_enumerate (pa_cons (pv 2) pa_nil)) (pg_tup (n := 2) rfl (pgs_cons (pg_name (i := 4) sc_law_rounds.nd rfl (.inl rfl)) (pgs_cons (pg_name (i := 5) sc_law_rounds.nd rfl (.inl rfl)) pgs_nil))) (pss_cons (ps_set (i := 6) sc_law_rounds.nd rfl (.inl rfl) (pe_ix ix_list (pv 1) (pe_ix ix_list (pv 2) (pe_op op_mod (pe_callTy call_intI (by rfl) T.n_int (by rfl) (pa_cons (pe_op op_add (pv 4) pe_int) pa_nil)) (pe_callB call_len2 (by rfl) T.n_len (by rfl) (pa_cons (pv 2) pa_nil))) (fun _ _ => rfl)) (fun _ _ => rfl)))
      (pss_one (ps_set (i := 3) sc_law_rounds.nd rfl (.inl rfl) (pe_op op_add (pe_op op_add (pv 3) (pe_ix ix_tup (pe_ix ix_list (pv 1) (pv 5) (fun _ _ => rfl)) pe_int (fun _ _ => rfl))) (pe_op op_mod (pe_callTy call_intI (by rfl) T.n_int (by rfl) (pa_cons (pe_op op_sub (pe_ix ix_tup (pv 6) pe_int (fun _ _ => rfl)) (pe_call (ok_law_end T) (hr.mono (by decide)) (by rfl) T.p_law_end.g T.p_law_end.fn.kp T.p_law_end.b .nil pass0 (pa_cons (pv 0) (pa_cons (pe_ix ix_list (pv 1) (pv 5) (fun _ _ => rfl)) pa_nil)))) pa_nil)) (pv 0)))))))
      (pss_one (ps_ret (pe_op op_fdivW (pv 3) (pv 0)))))), ?_⟩
    repeat walk_at "rs"
    refine ⟨o, _, rfl, sqe ho, ?_⟩
    refine for_gen (ns.map V.int).length (fun i σ H' => ∃ y4 y5 y6, σ = [some (.int m), some (.ref l), some (.ref o), some (.int (((waitsF m lot ns).take i).sum + ((lensO lot ns).take i).sum)), y4, y5, y6] ∧ Same H H')
      ⟨none, none, none, rfl, Same.refl H⟩ ?_ ?_ ?_ ?_
    · rintro σ H' ⟨y4, y5, y6, rfl, sm⟩
      exact ⟨_, sqe (ho.same sm), Nat.le_refl _⟩
    · rintro i σ H' hi ⟨y4, y5, y6, rfl, sm⟩
      exact go_enum (sqe (ho.same sm)) hi
    · rintro i σ H1 x H2 hi ⟨y4, y5, y6, rfl, sm⟩ ⟨T1, v, rfl, nT, rfl, f⟩
      obtain ⟨kk, gk, rfl⟩ := ints_get (f _ (sqe (ho.same sm)))
      have hi2 : i < ns.length := by omega
      have rk := O.rng kk (List.mem_of_getElem? gk)
      have hq : (i + 1) % ns.length < ns.length := Nat.mod_lt _ (by omega)
      obtain ⟨k2, g2⟩ : ∃ k2, ns[(i + 1) % ns.length]? = some k2 := ⟨_, List.getElem?_eq_getElem hq⟩
      have rk2 := O.rng k2 (List.mem_of_getElem? g2)
      have sT : Same H1 (upd H1 T1 (.tup [.int (i : Nat), .int kk])) := Same.new nT
      have s3 := sm.trans sT
      refine r_gtup (ste upd_same) rfl ?_
      revert s3
      generalize upd H1 T1 (.tup [.int (i : Nat), .int kk]) = H3
      intro s3
      obtain ⟨xs, a, hx, at1', ta⟩ := (hl.same s3).at rk.1 (by omega)
      obtain ⟨xs2, a2, hx2, at2', ta2⟩ := (hl.same s3).at rk2.1 (by omega)
      repeat walk_at "rs"
      refine r_len2 (.inl (sqe (ho.same s3))) ?_
      refine r_I (by rw [ml]; omega) ?_
      rw [ml]
      have em : ((i : Int) + 1) % (ns.length : Int) = (((i + 1) % ns.length : Nat) : Int) := by
        rw [Int.natCast_emod]
        rfl
      rw [em]
      refine r_ixL (sqe (ho.same s3)) (ints_at g2) ?_
      refine r_ixL (sqe hx2) at2' ?_
      repeat walk_at "rs"
      refine r_ixL (sqe hx) at1' ?_
      repeat walk_at "rs"
      refine r_ixT (ste ta) at1 ?_
      repeat walk_at "rs"
      refine r_ixT (ste ta2) at0 ?_
      repeat walk_at "rs"
      refine r_ixL (sqe hx) at1' ?_
      repeat walk_at "rs"
      refine ⟨m, a, _, rfl, ta, w1, ?_⟩
      repeat walk_at "rs"
      refine r_I (by omega) ?_
      repeat walk_at "rs"
      refine ⟨some (.int (i : Nat)), some (.int kk), some (.ref a2), ?_, s3⟩
      have gw : (waitsF m lot ns)[i]? = some (waitP m (nthP lot kk) (nthP lot k2)) := by
        have gz2 : (ns.zip (ns.drop 1 ++ ns.take 1))[i]? = some (kk, k2) := List.getElem?_zip_eq_some.mpr ⟨gk, by rw [after_mod hi2]; exact g2⟩
        unfold waitsF
        rw [List.getElem?_map, gz2]
        rfl
      have gl : (lensO lot ns)[i]? = some (nthP lot kk).2 := by
        unfold lensO
        rw [List.getElem?_map, gk]
        rfl
      rw [sum_take gw, sum_take gl]
      have ez : ((waitsF m lot ns).take i).sum + ((lensO lot ns).take i).sum + (nthP lot kk).2 + ((nthP lot k2).1 - ((nthP lot kk).1 + (nthP lot kk).2) % m) % m =
        ((waitsF m lot ns).take i).sum + waitP m (nthP lot kk) (nthP lot k2) + (((lensO lot ns).take i).sum + (nthP lot kk).2) := by
        unfold waitP
        omega
      rw [← ez]
      rfl
    · rintro σ H' ⟨y4, y5, y6, rfl, sm⟩
      rw [ml, List.take_of_length_le (by rw [waits_len]; exact Nat.le_refl _), List.take_of_length_le (by unfold lensO; rw [List.length_map]; exact Nat.le_refl _)]
      repeat walk_at "rs"
      refine r_I (wide_div (b := 200) (by omega) (by omega) (by decide) (by decide)) ?_
      exact k _ sm
def spLBegins : Sp := fun vs H Q _ => ∃ (m k0 : Int) (l o : Addr) (lot : List (Int × Int)) (ns : List Int), vs = [.int m, .ref l, .int k0, .ref o] ∧ LotAt H l lot ∧ RingOk m lot ∧ IntsAt H o ns ∧ OrdOk lot.length ns ∧
  ∀ t q H', Same H H' → H q = none → H' t = some (.tup [.ref q, .int (beginsF m lot k0 ns).2]) → IntsAt H' q (beginsF m lot k0 ns).1 → Q (.ref t) H'
theorem ok_law_begins (T : Tx K mg) : FnOk P w K mg base CX0 1 T.a_law_begins T.d_law_begins P_law_begins spLBegins := by
  refine T.p_law_begins.fn.ok sc_law_begins (fun vs H Q E h => ?_) (fun cdv A outer s H vs Q E hr h => ?_)
  · obtain ⟨m, k0, l, o, lot, ns, rfl, _⟩ := h
    rfl
  · obtain ⟨m, k0, l, o, lot, ns, rfl, hl, R, ho, O, k⟩ := h
    have n2 := R.n2
    have w1 := R.w1
    have ol := O.len
    have ml : (ns.map V.int).length = ns.length := List.length_map _
    refine ⟨_, (pss_cons (ps_par (i := 4) (j := 5) rfl sc_law_begins.nd rfl rfl (by decide) rfl rfl (pa_cons pe_int (pa_cons (pe_lst pa_nil) pa_nil)) (by rfl))
      (pss_cons (ps_for PassesOwn.never rfl (pi_list (pv 3)) (pg_name (i := 6) sc_law_begins.nd rfl (.inl rfl)) (pss_cons (ps_set (i := 4) sc_law_begins.nd rfl (.inl rfl) (pe_op op_add (pv 4) (pe_op op_mod (pe_callTy call_intI (by rfl) T.n_int (by rfl) (pa_cons (pe_op op_sub (pe_op op_sub (pe_ix ix_tup (pe_ix ix_list (pv 1) (pv 6) (fun _ _ => rfl)) pe_int (fun _ _ => rfl)) (pv 2)) (pv 4)) pa_nil)) (pv 0))))
      (pss_cons (ps_expr (pe_bm PySem.F.plainAttrs_list PySem.F.slot_list_append PySem.F.type_list_append mt_append (pv 5) (pa_cons (pv 4) pa_nil)))
      (pss_one (ps_set (i := 4) sc_law_begins.nd rfl (.inl rfl) (pe_op op_add (pv 4) (pe_ix ix_tup (pe_ix ix_list (pv 1) (pv 6) (fun _ _ => rfl)) pe_int (fun _ _ => rfl))))))))
      (pss_one (ps_ret (pe_tup (pa_cons (pv 5) (pa_cons (pv 4) pa_nil))))))), ?_⟩
    repeat walk_at "rs"
    refine ⟨by decide, fun D hD => ?_⟩
    repeat walk_at "rs"
    have sD : Same H (upd H D (.lst [])) := Same.new hD
    refine ⟨o, rfl, ⟨_, sqe (ho.same sD)⟩, ?_⟩
    refine for_gen (ns.map V.int).length (fun i σ H' => ∃ y6, σ = [some (.int m), some (.ref l), some (.int k0), some (.ref o), some (.int (beginsF m lot k0 (ns.take i)).2), some (.ref D), y6] ∧ Same H H' ∧
      H' D = some (.lst ((beginsF m lot k0 (ns.take i)).1.map V.int))) ⟨none, rfl, sD, upd_same⟩ ?_ ?_ ?_ ?_
    · rintro σ H' ⟨y6, rfl, sm, eD⟩
      exact ⟨_, sqe (ho.same sm), Nat.le_refl _⟩
    · rintro i σ H' hi ⟨y6, rfl, sm, eD⟩
      exact go_list (sqe (ho.same sm)) hi
    · rintro i σ H' x H'' hi ⟨y6, rfl, sm, eD⟩ ⟨rfl, f⟩
      obtain ⟨kk, gk, rfl⟩ := ints_get (f _ (sqe (ho.same sm)))
      have rk := O.rng kk (List.mem_of_getElem? gk)
      obtain ⟨xs, a, hx, at1', ta⟩ := (hl.same sm).at rk.1 (by omega)
      have bl : (beginsF m lot k0 (ns.take i)).1.length ≤ 30 := by
        rw [beginsF_len, List.length_take]
        omega
      repeat walk_at "rs"
      refine r_ixL (sqe hx) at1' ?_
      repeat walk_at "rs"
      refine r_ixT (ste ta) at0 ?_
      repeat walk_at "rs"
      refine r_I (by omega) ?_
      repeat walk_at "rs"
      refine ⟨.inl ⟨rfl, _, sqe eD⟩, ?_⟩
      repeat walk_at "rs"
      refine r_app eD (by rw [List.length_map]; omega) ?_
      have sK : Same H (upd H'' D (.lst ((beginsF m lot k0 (ns.take i)).1.map V.int ++ [.int ((beginsF m lot k0 (ns.take i)).2 + ((nthP lot kk).1 - k0 - (beginsF m lot k0 (ns.take i)).2) % m)]))) := same_keep hD sm
      obtain ⟨xs', a', hx', at1'', ta'⟩ := (hl.same sK).at rk.1 (by omega)
      repeat walk_at "rs"
      refine r_ixL (sqe hx') at1'' ?_
      repeat walk_at "rs"
      refine r_ixT (ste ta') at1 ?_
      repeat walk_at "rs"
      refine ⟨some (.int kk), ?_, sK, ?_⟩
      · rw [beginsF_more gk]
        rfl
      · rw [beginsF_more gk, upd_same]
        show _ = some (HO.lst (((beginsF m lot k0 (ns.take i)).1 ++ [_]).map V.int))
        rw [List.map_append]
        rfl
    · rintro σ H' ⟨y6, rfl, sm, eD⟩
      rw [ml, List.take_length] at eD ⊢
      repeat walk_at "rs"
      refine ⟨by show 2 ≤ sizeLine; decide, fun t ht => ?_⟩
      have sT : Same H' (upd H' t (.tup [.ref D, .int (beginsF m lot k0 ns).2])) := Same.new ht
      exact k t D _ (sm.trans sT) hD upd_same (sT _ _ eD)
end
end R9
namespace R9
open PySem PySem.Spec PyProof.Rows L2 Rg
local macro_rules | `(tactic| walk_at "rs") => `(tactic| (first
  | with_reducible refine Rg.r_seq ?_ | with_reducible refine Rg.r_asg ?_ | with_reducible refine Rg.r_name ?_ | with_reducible refine Rg.r_drop ?_ | with_reducible refine Rg.r_ret ?_ | with_reducible refine Rg.r_next ?_
  | refine Rg.r_var rfl ?_ | with_reducible refine Rg.r_c ?_ | with_reducible refine Rg.r_op ?_ | with_reducible refine Rg.r_un ?_ | with_reducible refine Rg.r_rU ?_ | with_reducible refine Rg.r_I0 ?_
  | with_reducible refine Rg.r_eqI ?_ | with_reducible refine Rg.r_neI ?_ | with_reducible refine Rg.r_test ?_ | with_reducible refine Rg.r_B ?_ | with_reducible refine Rg.r_bl ?_ | with_reducible refine Rg.r_not ?_ | with_reducible refine Rg.r_and ?_ | with_reducible refine Rg.r_or ?_
  | with_reducible refine Rg.r_andV ?_ | with_reducible refine Rg.r_orV ?_ | with_reducible refine Rg.r_notV ?_ | with_reducible refine Rg.r_if ?_ | with_reducible refine Rg.r_ifE ?_ | with_reducible refine Rg.r_chain ?_
  | with_reducible refine Rg.r_cb ?_ | with_reducible refine Rg.r_call ?_ | with_reducible refine Rg.r_nil ?_ | with_reducible refine Rg.r_cons ?_ | with_reducible refine Rg.r_lst ?_ | with_reducible refine Rg.r_tup ?_ | with_reducible refine Rg.r_sl ?_ | with_reducible refine Rg.r_noP ?_ | with_reducible refine Rg.r_part ?_ | with_reducible refine Rg.r_int ?_
  | with_reducible refine Rg.r_intI ?_ | with_reducible refine Rg.r_intB ?_ | with_reducible refine Rg.r_abs2 ?_ | with_reducible refine Rg.r_mx2 ?_ | with_reducible refine Rg.r_mn2 ?_ | with_reducible refine Rg.r_sub ?_ | with_reducible refine Rg.r_par ?_ | with_reducible refine Rg.r_par2 ?_ | with_reducible refine Rg.r_bm ?_
  | with_reducible refine Rg.r_gcons ?_ | with_reducible refine Rg.r_gnil ?_ | refine Rg.r_aug rfl ?_ | with_reducible refine Rg.r_ip ?_ | with_reducible refine iteT ?_ | with_reducible refine iteF ?_
  | with_reducible refine Rg.r_for ?_ | with_reducible refine Rg.r_lc ?_ | with_reducible refine Rg.r_ilist ?_ | with_reducible refine Rg.r_ienum ?_ | with_reducible refine Rg.r_izip ?_ | with_reducible refine Rg.r_irng1 ?_ | with_reducible refine Rg.r_irng2 ?_))
/-- a lot whose records are of the ring -/
def RecsOk (w : Int) (lot : List (Int × Int)) : Prop := ∀ p ∈ lot, RecOk w p
theorem LotAt.snoc {H : Hp} {l t : Addr} {lot : List (Int × Int)} {p : Int × Int} (h : LotAt H l lot) (nt : H t = none) : ∃ as : List Addr, H l = some (.lst (as.map V.ref)) ∧ as.length = lot.length ∧
    LotAt (upd (upd H t (.tup [.int p.1, .int p.2])) l (.lst (as.map V.ref ++ [.ref t]))) l (lot ++ [p]) := by
  obtain ⟨as, e, pr⟩ := h
  refine ⟨as, e, paired_len pr, as ++ [t], ?_, ?_⟩
  · rw [upd_same, List.map_append]
    rfl
  · have nlt : t ≠ l := fun q => by
      rw [q, e] at nt
      cases nt
    have go : ∀ (bs : List Addr) (qs : List (Int × Int)), Paired (TupAt H) bs qs → Paired (TupAt (upd (upd H t (.tup [.int p.1, .int p.2])) l (.lst (as.map V.ref ++ [.ref t])))) (bs ++ [t]) (qs ++ [p]) := by
      intro bs qs hb
      induction hb with
      | nil => exact .cons (by show upd _ l _ t = _; rw [upd_ne nlt]; exact upd_same) .nil
      | @cons b q bs qs hq hr ih =>
        refine .cons ?_ ih
        have hbl : b ≠ l := ne_of hq e (by intro z; cases z)
        have hbt : b ≠ t := ne_of_none hq nt
        show upd _ l _ b = _
        rw [upd_ne hbl, upd_ne hbt]
        exact hq
    exact go as lot pr
theorem at3 {a b c : V} {r : Int} (h0 : 0 ≤ r) (h1 : r < 3) : atI [a, b, c] r = some a ∨ atI [a, b, c] r = some b ∨ atI [a, b, c] r = some c := by
  rcases (show r = 0 ∨ r = 1 ∨ r = 2 by omega) with rfl | rfl | rfl
  · exact .inl at0
  · exact .inr (.inl at1)
  · exact .inr (.inr at2)
/-- an item of three ints, each within bounds -/
theorem at3b {x y z lo hi : Int} {r : Int} (h0 : 0 ≤ r) (h1 : r < 3) (hx : lo ≤ x ∧ x ≤ hi) (hy : lo ≤ y ∧ y ≤ hi) (hz : lo ≤ z ∧ z ≤ hi) : ∃ v, atI [V.int x, V.int y, V.int z] r = some (.int v) ∧ lo ≤ v ∧ v ≤ hi := by
  rcases at3 (a := V.int x) (b := V.int y) (c := V.int z) h0 h1 with h | h | h
  · exact ⟨x, h, hx⟩
  · exact ⟨y, h, hy⟩
  · exact ⟨z, h, hz⟩
theorem LotAt.sx {H H' : Hp} {a l : Addr} {M : Nat} {lot : List (Int × Int)} (h : LotAt H l lot) (hs : Src a M H) (n : l ≠ a) (k : Sx a H H') : LotAt H' l lot := by
  obtain ⟨as, e, pr⟩ := h
  obtain ⟨x, y, z, ea, _⟩ := hs
  exact ⟨as, k _ _ n e, Paired.mapP pr fun t p q => k _ _ (ne_of q ea (by intro z; cases z)) q⟩
/-- the heap of a turn: what was found, the spots, the source -/
structure FarW (a D F : Addr) (acc : List V) (H0 : Hp) (wd : Int) (fnd : List (Int × Int)) (M : Nat) (H : Hp) : Prop where
  lot : LotAt H F fnd
  sp : H D = some (.lst acc)
  sx : Sx a H0 H
  sr : Src a M H
theorem FarW.draw {a D F : Addr} {acc : List V} {H0 H H' : Hp} {wd : Int} {fnd : List (Int × Int)} {M : Nat} (h : FarW a D F acc H0 wd fnd M H) (nD : D ≠ a) (nF : F ≠ a) (k : Sx a H H') (s : Src a (M + 1) H') : FarW a D F acc H0 wd fnd (M + 1) H' :=
  ⟨h.lot.sx h.sr nF k, k _ _ nD h.sp, h.sx.trans k, s⟩
theorem FarW.same {a D F : Addr} {acc : List V} {H0 H H' : Hp} {wd : Int} {fnd : List (Int × Int)} {M : Nat} (h : FarW a D F acc H0 wd fnd M H) (k : Same H H') : FarW a D F acc H0 wd fnd M H' :=
  ⟨h.lot.same k, k _ _ h.sp, h.sx.trans (Sx.of k), h.sr.same k⟩
theorem FarW.le {a D F : Addr} {acc : List V} {H0 H : Hp} {wd : Int} {fnd : List (Int × Int)} {M M' : Nat} (h : FarW a D F acc H0 wd fnd M H) (k : M ≤ M') : FarW a D F acc H0 wd fnd M' H :=
  ⟨h.lot, h.sp, h.sx, h.sr.le k⟩
section
variable {P : Program} {w : World} {K : PySem.W.Frag} {mg : Str → Option Value} {base : Heap}
def spFarLot : Sp := fun vs H Q _ => ∃ (a : Addr) (n : Int) (N : Nat), vs = [.ref a, .int n] ∧ Src a N H ∧ 1 ≤ n ∧ n ≤ 30 ∧ N + 200 < 10 ^ 9 ∧
  ∀ t l w lot H', Sx a H H' → Src a (N + 190) H' → H' t = some (.tup [.int w, .ref l]) → H l = none → LotAt H' l lot → (lot.length : Int) = n → RingOk w lot → Q (.ref t) H'
theorem ok_law_far_lot (T : Tx K mg) : FnOk P w K mg base CX0 2 T.a_law_far_lot T.d_law_far_lot P_law_far_lot spFarLot := by
  refine T.p_law_far_lot.fn.ok sc_law_far_lot (fun vs H Q E h => ?_) (fun cdv A outer s H vs Q E hr h => ?_)
  · obtain ⟨a, n, N, rfl, _⟩ := h
    rfl
  · obtain ⟨a, n, N, rfl, hs, n1, n30, hN, k⟩ := h
    refine ⟨_, (pss_cons (ps_set (i := 2) sc_law_far_lot.nd rfl (.inr rfl) (pe_ix ix_list (pe_lst (pa_cons (pe_op op_powW pe_int pe_int) (pa_cons (pe_op op_add pe_int (pe_call (ok_law_draw T) (hr.mono (by decide)) (by rfl) T.p_law_draw.g T.p_law_draw.fn.kp T.p_law_draw.b .nil pass0 (pa_cons (pv 0) (pa_cons (pe_op op_powW pe_int pe_int) pa_nil)))) (pa_cons (pe_op op_add (pe_op op_powW pe_int pe_int) pe_int) pa_nil)))) (pe_call (ok_law_draw T) (hr.mono (by decide)) (by rfl) T.p_law_draw.g T.p_law_draw.fn.kp T.p_law_draw.b .nil pass0 (pa_cons (pv 0) (pa_cons pe_int pa_nil))) (fun _ _ => rfl)))
      (pss_cons (ps_par (i := 3) (j := 4) rfl sc_law_far_lot.nd rfl rfl (by decide) rfl rfl (pa_cons (pe_lc (own := [("turn", 9)]) (tt := tYes) rfl sc_law_far_lot.nd (pi_range1 rfl T.n_range (pa_cons pe_int pa_nil)) (blkOk_by (N := N_law_far_lot) (sc := defScope s_law_far_lot) (by decide +kernel)) (fun _ _ _ _ _ => by exact (pg_name (i := 9) sc_law_far_lot.nd rfl (.inl rfl))) (fun _ _ _ _ _ => pts_nil) (fun _ _ _ _ _ => by exact (pe_call (ok_law_draw T) (hr.mono (by decide)) (by rfl) T.p_law_draw.g T.p_law_draw.fn.kp T.p_law_draw.b .nil pass0 (pa_cons (pv 0) (pa_cons (pv 2) pa_nil))))) (pa_cons (pe_lst pa_nil) pa_nil)) (by rfl))
      (pss_cons (ps_for PassesOwn.never rfl (pi_range1 rfl T.n_range (pa_cons (pv 1) pa_nil)) (pg_name (i := 5) sc_law_far_lot.nd rfl (.inl rfl)) (pss_cons (ps_par (i := 6) (j := 7) rfl sc_law_far_lot.nd rfl rfl (by decide) rfl rfl (pa_cons (pe_ix ix_list (pv 3) (pe_call (ok_law_draw T) (hr.mono (by decide)) (by rfl) T.p_law_draw.g T.p_law_draw.fn.kp T.p_law_draw.b .nil pass0 (pa_cons (pv 0) (pa_cons pe_int pa_nil))) (fun _ _ => rfl)) (pa_cons (pe_op op_add pe_int (pe_call (ok_law_draw T) (hr.mono (by decide)) (by rfl) T.p_law_draw.g T.p_law_draw.fn.kp T.p_law_draw.b .nil pass0 (pa_cons (pv 0) (pa_cons (pe_ix ix_list (pe_lst (pa_cons (pv 2) (pa_cons (pe_op op_powW pe_int pe_int) (pa_cons pe_int pa_nil)))) (pe_call (ok_law_draw T) (hr.mono (by decide)) (by rfl) T.p_law_draw.g T.p_law_draw.fn.kp T.p_law_draw.b .nil pass0 (pa_cons (pv 0) (pa_cons pe_int pa_nil))) (fun _ _ => rfl)) pa_nil)))) pa_nil)) (by rfl))
      (pss_cons (ps_set (i := 8) sc_law_far_lot.nd rfl (.inl rfl) (pe_call (ok_law_draw T) (hr.mono (by decide)) (by rfl) T.p_law_draw.g T.p_law_draw.fn.kp T.p_law_draw.b .nil pass0 (pa_cons (pv 0) (pa_cons pe_int pa_nil))))
      (Evl.pss_cut (ps_if (pt_cmpR op_eq (pv 8) pe_int (nomark _)) (pss_one (ps_set (i := 7) sc_law_far_lot.nd rfl (.inl rfl) (pe_op op_add pe_int (pe_op op_mod (pe_callTy call_intI (by rfl) T.n_int (by rfl) (pa_cons (pe_op op_sub (pe_op op_sub (pe_ix ix_list (pv 3) (pe_call (ok_law_draw T) (hr.mono (by decide)) (by rfl) T.p_law_draw.g T.p_law_draw.fn.kp T.p_law_draw.b .nil pass0 (pa_cons (pv 0) (pa_cons pe_int pa_nil))) (fun _ _ => rfl)) (pv 6)) pe_int) pa_nil)) (pv 2))))) pss_nil)
      (Evl.pss_cut (ps_if (pt_cmpR op_eq (pv 8) pe_int (nomark _)) (pss_one (ps_set (i := 6) sc_law_far_lot.nd rfl (.inl rfl) (pe_call (ok_law_draw T) (hr.mono (by decide)) (by rfl) T.p_law_draw.g T.p_law_draw.fn.kp T.p_law_draw.b .nil pass0 (pa_cons (pv 0) (pa_cons (pv 2) pa_nil))))) pss_nil)
      (pss_one (ps_expr (pe_bm PySem.F.plainAttrs_list PySem.F.slot_list_append PySem.F.type_list_append mt_append (pv 4) (pa_cons (pe_tup (pa_cons (pv 6) (pa_cons (pv 7) pa_nil))) pa_nil)))))))))
      (pss_one (ps_ret (pe_tup (pa_cons (pv 2) (pa_cons (pv 4) pa_nil)))))))), ?_⟩
    repeat walk_at "rs"
    refine r_I (cpow 30 (by decide) (n := 10) (by decide) (by decide)) ?_
    repeat walk_at "rs"
    refine r_I (cpow 30 (by decide) (n := 10) (by decide) (by decide)) ?_
    repeat walk_at "rs"
    refine ⟨a, _, N, rfl, hs, by decide, smallc (by decide), by omega, fun r1 H1 r10 r11 sx1 sr1 => ?_⟩
    have e30 : (10 : Int) ^ Int.toNat 30 = 10 ^ 30 := rfl
    rw [e30] at r11 ⊢
    repeat walk_at "rs"
    refine r_I (cpow 29 (by decide) (n := 10) (by decide) (by decide)) ?_
    repeat walk_at "rs"
    refine ⟨by show 3 ≤ sizeLine; decide, fun p hp => ?_⟩
    have npa : a ≠ p := by
      obtain ⟨_, _, _, q, _⟩ := sr1
      exact ne_of_none q hp
    have s2 := Same.new (o := .lst [.int (10 ^ 30), .int (1 + r1), .int (10 ^ Int.toNat 29 + 1)]) hp
    repeat walk_at "rs"
    refine ⟨a, 3, N + 1, rfl, sr1.same s2, by decide, smallc (by decide), by omega, fun r2 H2 r20 r21 sx2 sr2 => ?_⟩
    have ep : H2 p = some (.lst [.int (10 ^ 30), .int (1 + r1), .int (10 ^ Int.toNat 29 + 1)]) := sx2 _ _ npa.symm upd_same
    have sxB : Sx a H H2 := (sx1.trans (Sx.of s2)).trans sx2
    have e29 : (10 : Int) ^ Int.toNat 29 = 10 ^ 29 := rfl
    rw [e29] at ep
    obtain ⟨wd, hat, wd1, wd2⟩ := at3b (lo := 1) (hi := 10 ^ 30) (x := 10 ^ 30) (y := 1 + r1) (z := 10 ^ 29 + 1) r20 r21 (by omega) (by omega) (by omega)
    refine r_ixL (sqe ep) hat ?_
    clear hat ep s2 npa hp
    repeat walk_at "rs"
    -- the four spots
    refine ⟨4, rfl, by decide, by decide, fun D hD => ?_⟩
    have naD : a ≠ D := by
      obtain ⟨_, _, _, q, _⟩ := sr2
      exact ne_of_none q hD
    have kS : ∀ (h : Hp) (M : Nat) (acc' : List V), Src a M h → Src a M (upd h D (.lst acc')) := fun h M acc' q => by
      obtain ⟨x, y, z, e, r⟩ := q
      exact ⟨x, y, z, by rw [upd_ne naD]; exact e, r⟩
    have kX : ∀ (h : Hp) (acc' : List V), Sx a H2 h → Sx a H2 (upd h D (.lst acc')) := fun h acc' q b o nb e => by
      rw [upd_ne (ne_of_none e hD)]
      exact q b o nb e
    refine lc_gen 4 (by decide) (fun i h => Sx a H2 h ∧ Src a (N + 2 + i) h) (fun i v h => ∃ r : Int, v = .int r ∧ 0 ≤ r ∧ r < wd) hD ⟨kX _ _ (Sx.refl _ _), kS _ _ _ sr2⟩ (fun i h acc acc' _ q => ⟨kX _ _ q.1, kS _ _ _ q.2⟩) ?_ ?_ ?_ ?_ ?_
    · intro h q
      exact Nat.le_refl 4
    · intro i h hi q
      exact hi
    · rintro i h x h' acc Q' hi ⟨qx, qs⟩ ha ⟨rfl, rfl⟩ q
      repeat walk_at "rs"
      refine ⟨rfl, ?_⟩
      repeat walk_at "rs"
      refine ⟨a, wd, _, rfl, qs, by omega, smallc (by omega), by omega, fun r h4 r0 r1 sx4 sr4 => ?_⟩
      exact q _ _ ⟨qx.trans sx4, sr4⟩ (sx4 _ _ naD.symm ha) (fun _ _ _ r => r) ⟨r, rfl, r0, r1⟩
    · intro i y h acc acc' _ r
      exact r
    · rintro H3 acc ⟨sx3, sr3⟩ ha hlen hF
      have ha1 : ∀ r : Int, 0 ≤ r → r < 4 → ∃ v, atI acc r = some (.int v) ∧ 0 ≤ v ∧ v < wd := by
        intro r h0 h1
        obtain ⟨v, gv⟩ := get_of (xs := acc) (i := r.toNat) (by omega)
        obtain ⟨z, rfl, z0, z1⟩ := hF _ _ gv
        have er : r = ((r.toNat : Nat) : Int) := by omega
        exact ⟨z, by rw [er]; exact atI_nat gv, z0, z1⟩
      repeat walk_at "rs"
      refine ⟨by decide, fun F hFn => ?_⟩
      repeat walk_at "rs"
      have naF : a ≠ F := by
        obtain ⟨_, _, _, q, _⟩ := sr3
        exact ne_of_none q hFn
      have nDF : D ≠ F := ne_of_none ha hFn
      have s3 := Same.new (o := .lst []) hFn
      have hF0 : H F = none := by
        cases q : H F with
        | none => rfl
        | some o =>
          have q2 := sx3 F o naF.symm (sxB F o naF.symm q)
          rw [hFn] at q2
          cases q2
      have sxC : Sx a H (upd H3 F (.lst [])) := (sxB.trans sx3).trans (Sx.of s3)
      refine ⟨n, rfl, by omega, by omega, ?_⟩
      refine for_gen n.toNat (fun i σ H' => ∃ (fnd : List (Int × Int)) (y5 y6 y7 y8 : Option V), σ = [some (.ref a), some (.int n), some (.int wd), some (.ref D), some (.ref F), y5, y6, y7, y8, none] ∧ fnd.length = i ∧ RecsOk wd fnd ∧
        FarW a D F acc H wd fnd (N + 6 + 6 * i) H') ⟨[], none, none, none, none, rfl, rfl, (fun p hp => by cases hp), ⟨⟨[], upd_same, .nil⟩, s3 _ _ ha, sxC, (sr3.same s3).le (by omega)⟩⟩ ?_ ?_ ?_ ?_
      · rintro σ H' _
        exact Nat.le_refl _
      · rintro i σ H' hi _
        exact hi
      · rintro i σ H' x H'' hi ⟨fnd, y5, y6, y7, y8, rfl, hn, hR, W0⟩ ⟨rfl, rfl⟩
        rw [Int.zero_add]
        repeat walk_at "rs"
        refine ⟨a, 4, _, rfl, W0.sr, by decide, smallc (by decide), by omega, fun q1 G1 q10 q11 tx1 tr1 => ?_⟩
        have W1 := W0.draw naD.symm naF.symm tx1 tr1
        obtain ⟨at_, hat1, b0, b1⟩ := ha1 q1 q10 q11
        refine r_ixL (sqe W1.sp) hat1 ?_
        repeat walk_at "rs"
        refine r_I (cpow 31 (by decide) (n := 10) (by decide) (by decide)) ?_
        have e31 : (10 : Int) ^ Int.toNat 31 = 10 ^ 31 := rfl
        rw [e31]
        repeat walk_at "rs"
        refine ⟨by show 3 ≤ sizeLine; decide, fun p2 hp2 => ?_⟩
        have np2 : a ≠ p2 := by
          obtain ⟨_, _, _, q, _⟩ := tr1
          exact ne_of_none q hp2
        have W2 := W1.same (Same.new (o := .lst [.int wd, .int (10 ^ 31), .int 1000]) hp2)
        repeat walk_at "rs"
        refine ⟨a, 3, _, rfl, W2.sr, by decide, smallc (by decide), by omega, fun q2 G2 q20 q21 tx2 tr2 => ?_⟩
        have W3 := W2.draw naD.symm naF.symm tx2 tr2
        have ep2 : G2 p2 = some (.lst [.int wd, .int (10 ^ 31), .int 1000]) := tx2 _ _ np2.symm upd_same
        obtain ⟨cb, hcb, c0, c1⟩ := at3b (lo := 1) (hi := 10 ^ 31) (x := wd) (y := 10 ^ 31) (z := 1000) q20 q21 (by omega) (by omega) (by omega)
        refine r_ixL (sqe ep2) hcb ?_
        clear hcb
        repeat walk_at "rs"
        refine ⟨a, cb, _, rfl, W3.sr, by omega, smallc (by omega), by omega, fun q3 G3 q30 q31 tx3 tr3 => ?_⟩
        have W4 := W3.draw naD.symm naF.symm tx3 tr3
        repeat walk_at "rs"
        refine ⟨a, 4, _, rfl, W4.sr, by decide, smallc (by decide), by omega, fun q4 G4 q40 q41 tx4 tr4 => ?_⟩
        have W5 := W4.draw naD.symm naF.symm tx4 tr4
        repeat walk_at "rs"
        refine r_cut (fun σ' G' => ∃ sz : Int, σ' = [some (.ref a), some (.int n), some (.int wd), some (.ref D), some (.ref F), some (.int (i : Int)), some (.int at_), some (.int sz), some (.int q4), none] ∧ 1 ≤ sz ∧ sz ≤ 10 ^ 31 ∧ FarW a D F acc H wd fnd (N + 6 + 6 * i + 5) G') ?_ ?_
        · repeat walk_at "rs"
          refine ite2 (fun _ => ?_) (fun _ => ?_)
          · repeat walk_at "rs"
            refine ⟨a, 4, _, rfl, W5.sr, by decide, smallc (by decide), by omega, fun q5 G5 q50 q51 tx5 tr5 => ?_⟩
            have W6 := W5.draw naD.symm naF.symm tx5 tr5
            obtain ⟨s5, hs5, _, _⟩ := ha1 q5 q50 q51
            refine r_ixL (sqe W6.sp) hs5 ?_
            repeat walk_at "rs"
            refine r_I (by omega) ?_
            have mm1 := Int.emod_nonneg (s5 - at_ - 1) (b := wd) (by omega)
            have mm2 := Int.emod_lt_of_pos (s5 - at_ - 1) (b := wd) (by omega)
            repeat walk_at "rs"
            exact ⟨1 + (s5 - at_ - 1) % wd, rfl, by omega, by omega, W6.le (by omega)⟩
          · repeat walk_at "rs"
            exact ⟨1 + q3, rfl, by omega, by omega, W5.le (by omega)⟩
        · rintro σ' G' ⟨sz, rfl, z1, z2, W6⟩
          refine r_cut (fun σ' G' => ∃ b : Int, σ' = [some (.ref a), some (.int n), some (.int wd), some (.ref D), some (.ref F), some (.int (i : Int)), some (.int b), some (.int sz), some (.int q4), none] ∧ 0 ≤ b ∧ b < wd ∧ FarW a D F acc H wd fnd (N + 6 + 6 * i + 6) G') ?_ ?_
          · repeat walk_at "rs"
            refine ite2 (fun _ => ?_) (fun _ => ?_)
            · repeat walk_at "rs"
              refine ⟨a, wd, _, rfl, W6.sr, by omega, smallc (by omega), by omega, fun q5 G5 q50 q51 tx5 tr5 => ?_⟩
              repeat walk_at "rs"
              exact ⟨q5, rfl, q50, q51, (W6.draw naD.symm naF.symm tx5 tr5).le (by omega)⟩
            · repeat walk_at "rs"
              exact ⟨at_, rfl, b0, b1, W6.le (by omega)⟩
          · rintro σ' G5 ⟨b, rfl, bb0, bb1, W7⟩
            repeat walk_at "rs"
            obtain ⟨_, eF, _⟩ := W7.lot.seq
            refine ⟨.inl ⟨rfl, _, sqe eF⟩, ?_⟩
            repeat walk_at "rs"
            refine ⟨by show 2 ≤ sizeLine; decide, fun t ht => ?_⟩
            obtain ⟨as, eF2, las, lsn⟩ := W7.lot.snoc (p := (b, sz)) ht
            have nFt : F ≠ t := ne_of_none eF2 ht
            have nat_ : a ≠ t := by
              obtain ⟨_, _, _, q, _⟩ := W7.sr
              exact ne_of_none q ht
            repeat walk_at "rs"
            refine r_app (xs := as.map V.ref) (by rw [upd_ne nFt]; exact eF2) (by rw [List.length_map]; omega) ?_
            repeat walk_at "rs"
            refine ⟨fnd ++ [(b, sz)], _, _, _, _, rfl, by rw [List.length_append, hn]; rfl, ?_, ⟨lsn, ?_, ?_, ?_⟩⟩
            · intro p hp
              rcases List.mem_append.mp hp with q | q
              · exact hR p q
              · rw [List.mem_singleton.mp q]
                exact ⟨bb0, bb1, z1, z2⟩
            · rw [upd_ne nDF, upd_ne (ne_of_none W7.sp ht)]
              exact W7.sp
            · intro c o nc hc
              have ncF : c ≠ F := ne_of_none hc hF0
              have nct : c ≠ t := ne_of_none (W7.sx c o nc hc) ht
              rw [upd_ne ncF, upd_ne nct]
              exact W7.sx c o nc hc
            · obtain ⟨x, y, z, q, r⟩ := W7.sr
              refine ⟨x, y, z, ?_, ?_⟩
              · rw [upd_ne naF, upd_ne nat_]
                exact q
              · rw [show N + 6 + 6 * (i + 1) = N + 6 + 6 * i + 6 by omega]
                exact r
      · rintro σ H' ⟨fnd, y5, y6, y7, y8, rfl, hn, hR, W⟩
        repeat walk_at "rs"
        refine ⟨by show 2 ≤ sizeLine; decide, fun t ht => ?_⟩
        have W2 := W.same (Same.new (o := .tup [.int wd, .ref F]) ht)
        exact k t F wd fnd _ W2.sx (W2.sr.le (by omega)) upd_same hF0 W2.lot (by omega) ⟨by omega, by omega, by omega, by omega, hR⟩
end
end R9
namespace R9
open PySem PySem.Spec PyProof.Rows L2 Rg
local macro_rules | `(tactic| walk_at "rs") => `(tactic| (first
  | with_reducible refine Rg.r_seq ?_ | with_reducible refine Rg.r_asg ?_ | with_reducible refine Rg.r_name ?_ | with_reducible refine Rg.r_drop ?_ | with_reducible refine Rg.r_ret ?_ | with_reducible refine Rg.r_next ?_
  | refine Rg.r_var rfl ?_ | with_reducible refine Rg.r_c ?_ | with_reducible refine Rg.r_op ?_ | with_reducible refine Rg.r_un ?_ | with_reducible refine Rg.r_rU ?_ | with_reducible refine Rg.r_I0 ?_
  | with_reducible refine Rg.r_eqI ?_ | with_reducible refine Rg.r_neI ?_ | with_reducible refine Rg.r_test ?_ | with_reducible refine Rg.r_B ?_ | with_reducible refine Rg.r_bl ?_ | with_reducible refine Rg.r_not ?_ | with_reducible refine Rg.r_and ?_ | with_reducible refine Rg.r_or ?_
  | with_reducible refine Rg.r_andV ?_ | with_reducible refine Rg.r_orV ?_ | with_reducible refine Rg.r_notV ?_ | with_reducible refine Rg.r_if ?_ | with_reducible refine Rg.r_ifE ?_ | with_reducible refine Rg.r_chain ?_
  | with_reducible refine Rg.r_cb ?_ | with_reducible refine Rg.r_call ?_ | with_reducible refine Rg.r_nil ?_ | with_reducible refine Rg.r_cons ?_ | with_reducible refine Rg.r_lst ?_ | with_reducible refine Rg.r_tup ?_ | with_reducible refine Rg.r_sl ?_ | with_reducible refine Rg.r_noP ?_ | with_reducible refine Rg.r_part ?_ | with_reducible refine Rg.r_int ?_
  | with_reducible refine Rg.r_intI ?_ | with_reducible refine Rg.r_intB ?_ | with_reducible refine Rg.r_abs2 ?_ | with_reducible refine Rg.r_mx2 ?_ | with_reducible refine Rg.r_mn2 ?_ | with_reducible refine Rg.r_sub ?_ | with_reducible refine Rg.r_par ?_ | with_reducible refine Rg.r_par2 ?_ | with_reducible refine Rg.r_bm ?_
  | with_reducible refine Rg.r_gcons ?_ | with_reducible refine Rg.r_gnil ?_ | refine Rg.r_aug rfl ?_ | with_reducible refine Rg.r_ip ?_ | with_reducible refine iteT ?_ | with_reducible refine iteF ?_
  | with_reducible refine Rg.r_for ?_ | with_reducible refine Rg.r_lc ?_ | with_reducible refine Rg.r_ilist ?_ | with_reducible refine Rg.r_ienum ?_ | with_reducible refine Rg.r_izip ?_ | with_reducible refine Rg.r_irng1 ?_ | with_reducible refine Rg.r_irng2 ?_))
/-! ### the law's mathematics -/
theorem OrdOk.perm {n : Nat} {ns ms : List Int} (h : OrdOk n ns) (p : ms.Perm ns) : OrdOk n ms :=
  ⟨p.length_eq.trans h.len, fun x hx => h.rng x (p.mem_iff.mp hx), p.nodup_iff.mpr h.nd⟩
def upI (n : Nat) : List Int := (List.range n).map Int.ofNat
theorem ordok_up (n : Nat) : OrdOk n (upI n) := by
  refine ⟨by unfold upI; rw [List.length_map, List.length_range], fun x hx => ?_, ?_⟩
  · unfold upI at hx
    obtain ⟨i, hi, rfl⟩ := List.mem_map.mp hx
    rw [List.mem_range] at hi
    show 0 ≤ (i : Int) ∧ (i : Int) < n
    omega
  · unfold upI
    refine (List.pairwise_map.mpr ?_)
    exact (List.nodup_range (n := n)).imp fun h e => h (Int.ofNat_inj.mp e)
theorem sum_perm {xs ys : List Int} (h : xs.Perm ys) : xs.sum = ys.sum := by
  induction h with
  | nil => rfl
  | cons x _ ih => rw [List.sum_cons, List.sum_cons, ih]
  | swap x y l =>
    rw [List.sum_cons, List.sum_cons, List.sum_cons, List.sum_cons]
    omega
  | trans _ _ h1 h2 => rw [h1, h2]
theorem up_lens (lot : List (Int × Int)) : lensO lot (upI lot.length) = lens lot := by
  unfold lensO lens upI
  rw [List.map_map]
  refine List.ext_getElem? fun i => ?_
  rw [List.getElem?_map, List.getElem?_map]
  by_cases h : i < lot.length
  · rw [List.getElem?_eq_getElem h, List.getElem?_range h]
    show some (nthP lot (i : Int)).2 = some lot[i].2
    unfold nthP
    rw [Int.toNat_natCast, List.getD_eq_getElem?_getD, List.getElem?_eq_getElem h]
    rfl
  · rw [List.getElem?_eq_none (by rw [List.length_range]; omega), List.getElem?_eq_none (by omega)]
    rfl
theorem lensO_sum {lot : List (Int × Int)} {ns : List Int} (h : ns.Perm (upI lot.length)) : (lensO lot ns).sum = (lens lot).sum := by
  rw [← up_lens]
  exact sum_perm (h.map _)
/-- the waits along a list, to the begin of a last record -/
def wchain (w : Int) (lot : List (Int × Int)) (k : Int) : List Int → Int → List Int
  | [], z => [waitP w (nthP lot k) (nthP lot z)]
  | a :: r, z => waitP w (nthP lot k) (nthP lot a) :: wchain w lot a r z
theorem waits_chain (w : Int) (lot : List (Int × Int)) (k : Int) (r : List Int) : waitsF w lot (k :: r) = wchain w lot k r k := by
  have go : ∀ (r : List Int) (a z : Int), ((a :: r).zip (r ++ [z])).map (fun x => waitP w (nthP lot x.1) (nthP lot x.2)) = wchain w lot a r z := by
    intro r
    induction r with
    | nil => intro a z; rfl
    | cons b r ih =>
      intro a z
      rw [List.cons_append, List.zip_cons_cons, List.map_cons, ih]
      rfl
  exact go r k k
/-- lengths and waits along a chain: from the begin of the first one to that of the last one, whole rounds more -/
theorem chain_mod {w : Int} (lot : List (Int × Int)) : ∀ (r : List Int) (k z : Int), ∃ q : Int, (wchain w lot k r z).sum + (lensO lot (k :: r)).sum = (nthP lot z).1 - (nthP lot k).1 + w * q
  | [], k, z => by
    have h1 := Int.emod_add_mul_ediv ((nthP lot z).1 - ((nthP lot k).1 + (nthP lot k).2) % w) w
    have h2 := Int.emod_add_mul_ediv ((nthP lot k).1 + (nthP lot k).2) w
    refine ⟨((nthP lot k).1 + (nthP lot k).2) / w - ((nthP lot z).1 - ((nthP lot k).1 + (nthP lot k).2) % w) / w, ?_⟩
    rw [Int.mul_sub]
    show [waitP w (nthP lot k) (nthP lot z)].sum + [(nthP lot k).2].sum = _
    rw [List.sum_cons, List.sum_nil, List.sum_cons, List.sum_nil]
    unfold waitP
    omega
  | a :: r, k, z => by
    obtain ⟨q, e⟩ := chain_mod (w := w) lot r a z
    have h1 := Int.emod_add_mul_ediv ((nthP lot a).1 - ((nthP lot k).1 + (nthP lot k).2) % w) w
    have h2 := Int.emod_add_mul_ediv ((nthP lot k).1 + (nthP lot k).2) w
    refine ⟨q + (((nthP lot k).1 + (nthP lot k).2) / w - ((nthP lot a).1 - ((nthP lot k).1 + (nthP lot k).2) % w) / w), ?_⟩
    rw [Int.mul_add, Int.mul_sub]
    show (waitP w (nthP lot k) (nthP lot a) :: wchain w lot a r z).sum + ((nthP lot k).2 :: lensO lot (a :: r)).sum = _
    rw [List.sum_cons, List.sum_cons]
    unfold waitP
    omega
theorem lap_rounds_all {w : Int} (hw : 1 ≤ w) {lot : List (Int × Int)} {ns : List Int} (h : ns.Perm (upI lot.length)) (hn : 1 ≤ lot.length) : ((waitsF w lot ns).sum + (lens lot).sum) / w * w = (waitsF w lot ns).sum + (lens lot).sum := by
  cases ns with
  | nil =>
    have e := h.length_eq
    rw [(ordok_up lot.length).len] at e
    simp at e
    omega
  | cons k r =>
    obtain ⟨q, e⟩ := chain_mod (w := w) lot r k k
    rw [waits_chain, ← lensO_sum h, e]
    have e2 : (nthP lot k).1 - (nthP lot k).1 + w * q = w * q := by omega
    rw [e2, Int.mul_ediv_cancel_left q (by omega), Int.mul_comm]
/-- a trip from the begin of its first record: the end is the waits but the last one, and the lengths -/
theorem trip_chain {w : Int} (hw : 1 ≤ w) (lot : List (Int × Int)) (m : Int) : ∀ (r : List Int) (k z t : Int) (bs : List Int), (∃ q, t = (nthP lot k).1 + (nthP lot k).2 - m + w * q) →
    ∃ l, (wchain w lot k r z).getLast? = some l ∧ (r.foldl (stepB w lot m) (bs, t)).2 + l = t + (wchain w lot k r z).sum + (lensO lot r).sum
  | [], k, z, t, bs, _ => ⟨_, rfl, by
    show t + waitP w (nthP lot k) (nthP lot z) = t + [waitP w (nthP lot k) (nthP lot z)].sum + ([] : List Int).sum
    rw [List.sum_cons, List.sum_nil]
    omega⟩
  | a :: r, k, z, t, bs, ⟨q, e⟩ => by
    have ew : ((nthP lot a).1 - m - t) % w = waitP w (nthP lot k) (nthP lot a) := by
      unfold waitP
      have h2 := Int.emod_add_mul_ediv ((nthP lot k).1 + (nthP lot k).2) w
      have e2 : (nthP lot a).1 - m - t = (nthP lot a).1 - ((nthP lot k).1 + (nthP lot k).2) % w + w * (-(((nthP lot k).1 + (nthP lot k).2) / w) - q) := by
        rw [Int.mul_sub, Int.mul_neg]
        omega
      rw [e2, Int.add_mul_emod_self_left]
    obtain ⟨l, e1, e2⟩ := trip_chain hw lot m r a z (t + waitP w (nthP lot k) (nthP lot a) + (nthP lot a).2) (bs ++ [t + waitP w (nthP lot k) (nthP lot a)]) (by
      have h1 := Int.emod_add_mul_ediv ((nthP lot a).1 - m - t) w
      refine ⟨-(((nthP lot a).1 - m - t) / w), ?_⟩
      rw [Int.mul_neg, ← ew]
      omega)
    refine ⟨l, ?_, ?_⟩
    · show (_ :: wchain w lot a r z).getLast? = _
      rw [List.getLast?_cons, e1]
      rfl
    · rw [List.foldl_cons]
      have es : stepB w lot m (bs, t) a = (bs ++ [t + waitP w (nthP lot k) (nthP lot a)], t + waitP w (nthP lot k) (nthP lot a) + (nthP lot a).2) := by
        unfold stepB
        rw [ew]
      rw [es, e2]
      show _ = t + (waitP w (nthP lot k) (nthP lot a) :: wchain w lot a r z).sum + ((nthP lot a).2 :: lensO lot r).sum
      rw [List.sum_cons, List.sum_cons]
      omega
theorem trip_lap {w : Int} (hw : 1 ≤ w) (lot : List (Int × Int)) (k : Int) (r : List Int) : ∃ l, (waitsF w lot (k :: r)).getLast? = some l ∧ (beginsF w lot (nthP lot k).1 (k :: r)).2 + l = (waitsF w lot (k :: r)).sum + (lensO lot (k :: r)).sum := by
  rw [waits_chain]
  obtain ⟨l, e1, e2⟩ := trip_chain hw lot (nthP lot k).1 r k k (0 + ((nthP lot k).1 - (nthP lot k).1 - 0) % w + (nthP lot k).2) ([] ++ [0 + ((nthP lot k).1 - (nthP lot k).1 - 0) % w]) ⟨0, by
    have e : (nthP lot k).1 - (nthP lot k).1 - 0 = 0 := by omega
    rw [e, Int.zero_emod]
    omega⟩
  refine ⟨l, e1, ?_⟩
  unfold beginsF
  rw [List.foldl_cons]
  show (r.foldl (stepB w lot (nthP lot k).1) ([] ++ [0 + ((nthP lot k).1 - (nthP lot k).1 - 0) % w], 0 + ((nthP lot k).1 - (nthP lot k).1 - 0) % w + (nthP lot k).2)).2 + l = _
  rw [e2]
  have e : (nthP lot k).1 - (nthP lot k).1 - 0 = 0 := by omega
  rw [e, Int.zero_emod]
  show _ = _ + ((nthP lot k).2 :: lensO lot r).sum
  rw [List.sum_cons]
  omega
/-! a lap turned -/
theorem waits_rot (w : Int) (lot : List (Int × Int)) (xs ys : List Int) : waitsF w lot (ys ++ xs) = (waitsF w lot (xs ++ ys)).drop xs.length ++ (waitsF w lot (xs ++ ys)).take xs.length := by
  cases xs with
  | nil => simp
  | cons x xs =>
    cases ys with
    | nil =>
      rw [List.append_nil, List.nil_append]
      have hl : (waitsF w lot (x :: xs)).length = (x :: xs).length := by
        unfold waitsF
        rw [List.length_map, List.length_zip, List.length_append, List.length_drop, List.length_take]
        simp
      rw [List.drop_of_length_le (by omega), List.take_of_length_le (by omega)]
      rfl
    | cons y ys =>
      have ch : ∀ (a : List Int) (k b z : Int) (c : List Int), wchain w lot k (a ++ b :: c) z = wchain w lot k a b ++ wchain w lot b c z := by
        intro a
        induction a with
        | nil => intro k b z c; rfl
        | cons d a ih =>
          intro k b z c
          rw [List.cons_append]
          show _ :: wchain w lot d (a ++ b :: c) z = _
          rw [ih]
          rfl
      have cl : ∀ (a : List Int) (k z : Int), (wchain w lot k a z).length = a.length + 1 := by
        intro a
        induction a with
        | nil => intro k z; rfl
        | cons d a ih =>
          intro k z
          show (_ :: wchain w lot d a z).length = _
          rw [List.length_cons, ih, List.length_cons]
      rw [List.cons_append, List.cons_append, waits_chain, waits_chain, ch, ch]
      have e : (wchain w lot x xs y).length = (x :: xs).length := by rw [cl, List.length_cons]
      rw [← e, List.drop_left, List.take_left]
/-! moved around -/
theorem nthP_moved {w b : Int} {lot : List (Int × Int)} {k : Int} (h0 : 0 ≤ k) (h1 : k < lot.length) : nthP (movedF w b lot) k = (((nthP lot k).1 + b) % w, (nthP lot k).2) := by
  have hk : k.toNat < lot.length := by omega
  unfold nthP movedF
  rw [List.getD_eq_getElem?_getD, List.getD_eq_getElem?_getD, List.getElem?_map, List.getElem?_eq_getElem hk]
  rfl
theorem waitP_moved (w b : Int) (p q : Int × Int) : waitP w ((p.1 + b) % w, p.2) ((q.1 + b) % w, q.2) = waitP w p q := by
  unfold waitP
  show ((q.1 + b) % w - ((p.1 + b) % w + p.2) % w) % w = _
  rw [Int.sub_emod, Int.emod_emod, Int.emod_emod, Int.emod_add_emod, ← Int.sub_emod, Int.sub_emod q.1, Int.emod_emod, ← Int.sub_emod]
  congr 1
  omega
theorem waits_moved {w b : Int} {lot : List (Int × Int)} {ns : List Int} (h : OrdOk lot.length ns) : waitsF w (movedF w b lot) ns = waitsF w lot ns := by
  unfold waitsF
  refine List.map_congr_left fun x hx => ?_
  obtain ⟨m1, m2⟩ := List.of_mem_zip (a := x.1) (b := x.2) hx
  have m2' : x.2 ∈ ns := by
    rcases List.mem_append.mp m2 with q | q
    · exact List.mem_of_mem_drop q
    · exact List.mem_of_mem_take q
  have r1 := h.rng _ m1
  have r2 := h.rng _ m2'
  rw [nthP_moved r1.1 (by omega), nthP_moved r2.1 (by omega), waitP_moved]
theorem begins_moved {w b m : Int} {lot : List (Int × Int)} {ns : List Int} (h : ∀ x ∈ ns, 0 ≤ x ∧ x < lot.length) : beginsF w (movedF w b lot) ((m + b) % w) ns = beginsF w lot m ns := by
  have go : ∀ (ns : List Int) (s : List Int × Int), (∀ x ∈ ns, 0 ≤ x ∧ x < lot.length) → ns.foldl (stepB w (movedF w b lot) ((m + b) % w)) s = ns.foldl (stepB w lot m) s := by
    intro ns
    induction ns with
    | nil => intro s _; rfl
    | cons k r ih =>
      intro s h
      have hk := h k (List.mem_cons_self ..)
      rw [List.foldl_cons, List.foldl_cons, ih _ fun x hx => h x (List.mem_cons_of_mem _ hx)]
      congr 1
      unfold stepB
      rw [nthP_moved hk.1 hk.2]
      have e : (((nthP lot k).1 + b) % w - (m + b) % w - s.2) % w = ((nthP lot k).1 - m - s.2) % w := by
        rw [Int.sub_emod, ← Int.sub_emod ((nthP lot k).1 + b), ← Int.sub_emod]
        congr 1
        omega
      show (s.1 ++ [s.2 + (((nthP lot k).1 + b) % w - (m + b) % w - s.2) % w], s.2 + (((nthP lot k).1 + b) % w - (m + b) % w - s.2) % w + (nthP lot k).2) = _
      rw [e]
  exact go ns _ h
theorem movedF_len (w b : Int) (lot : List (Int × Int)) : (movedF w b lot).length = lot.length := by
  unfold movedF
  exact List.length_map _
end R9
namespace R9
open PySem PySem.Spec PyProof.Rows L2 Rg
local macro_rules | `(tactic| walk_at "rs") => `(tactic| (first
  | with_reducible refine Rg.r_seq ?_ | with_reducible refine Rg.r_asg ?_ | with_reducible refine Rg.r_name ?_ | with_reducible refine Rg.r_drop ?_ | with_reducible refine Rg.r_ret ?_ | with_reducible refine Rg.r_next ?_
  | refine Rg.r_var rfl ?_ | with_reducible refine Rg.r_c ?_ | with_reducible refine Rg.r_op ?_ | with_reducible refine Rg.r_un ?_ | with_reducible refine Rg.r_rU ?_ | with_reducible refine Rg.r_I0 ?_
  | with_reducible refine Rg.r_eqI ?_ | with_reducible refine Rg.r_neI ?_ | with_reducible refine Rg.r_test ?_ | with_reducible refine Rg.r_B ?_ | with_reducible refine Rg.r_bl ?_ | with_reducible refine Rg.r_not ?_ | with_reducible refine Rg.r_and ?_ | with_reducible refine Rg.r_or ?_
  | with_reducible refine Rg.r_andV ?_ | with_reducible refine Rg.r_orV ?_ | with_reducible refine Rg.r_notV ?_ | with_reducible refine Rg.r_if ?_ | with_reducible refine Rg.r_ifE ?_ | with_reducible refine Rg.r_chain ?_
  | with_reducible refine Rg.r_cb ?_ | with_reducible refine Rg.r_call ?_ | with_reducible refine Rg.r_nil ?_ | with_reducible refine Rg.r_cons ?_ | with_reducible refine Rg.r_lst ?_ | with_reducible refine Rg.r_tup ?_ | with_reducible refine Rg.r_sl ?_ | with_reducible refine Rg.r_noP ?_ | with_reducible refine Rg.r_part ?_ | with_reducible refine Rg.r_int ?_
  | with_reducible refine Rg.r_intI ?_ | with_reducible refine Rg.r_intB ?_ | with_reducible refine Rg.r_abs2 ?_ | with_reducible refine Rg.r_mx2 ?_ | with_reducible refine Rg.r_mn2 ?_ | with_reducible refine Rg.r_sub ?_ | with_reducible refine Rg.r_par ?_ | with_reducible refine Rg.r_par2 ?_ | with_reducible refine Rg.r_bm ?_
  | with_reducible refine Rg.r_gcons ?_ | with_reducible refine Rg.r_gnil ?_ | refine Rg.r_aug rfl ?_ | with_reducible refine Rg.r_ip ?_ | with_reducible refine iteT ?_ | with_reducible refine iteF ?_
  | with_reducible refine Rg.r_for ?_ | with_reducible refine Rg.r_lc ?_ | with_reducible refine Rg.r_ilist ?_ | with_reducible refine Rg.r_ienum ?_ | with_reducible refine Rg.r_izip ?_ | with_reducible refine Rg.r_irng1 ?_ | with_reducible refine Rg.r_irng2 ?_))
local macro_rules | `(tactic| walk_at "nm") => `(tactic| simp only [L2.start, List.map_cons, List.map_nil, List.length_cons, List.length_nil, List.replicate_succ, List.replicate_zero, List.cons_append, List.nil_append, List.set_cons_succ, List.set_cons_zero, Nat.reduceAdd, Nat.reduceSub, Nat.zero_add, Nat.add_zero])
theorem r_listRg2 {ta tb : TE} {σ : L2.St} {H : Hp} {Q : VK} (h : ta σ H fun x H1 => tb σ H1 fun y H2 => ∃ i j, x = .int i ∧ y = .int j ∧ RgOk i j ∧ ∀ q, H2 q = none → Q (.ref q) (upd H2 q (.lst (rgV i j)))) : tLstRg (tRg2 ta tb) σ H Q := h
theorem r_rot {K : PySem.W.Frag} {σ : L2.St} {H : Hp} {Q : VK} {ns : List Int} {o : Addr} {c io ic : Nat} (ho : IntsAt H o ns) (hz : ns.length ≤ 30) (hσ : σ[io]? = some (some (.ref o))) (hc : σ[ic]? = some (some (.int (c : Int))))
    (q : ∀ d H', Same H H' → H d = none → IntsAt H' d (ns.drop c ++ ns.take c) → Q (.ref d) H') :
    rSlL K (.ref o) (some (c : Int)) none H fun x H1 => tSl (rSlL K) (tVar io) tNoPart (tPart (tVar ic)) σ H1 fun y H2 => rCatR K x y H2 Q := by
  refine r_slL (sqe ho) fun d1 hd1 => ?_
  rw [cut_drop, ← List.map_drop]
  have t1 : Same H (upd H d1 (.lst ((ns.drop c).map V.int))) := Same.new hd1
  refine ⟨_, hσ, _, hc, (c : Int), rfl, ?_⟩
  refine r_slL (sqe (ho.same t1)) fun d2 hd2 => ?_
  rw [cut_take, ← List.map_take]
  have t2 := Same.new (o := HO.lst ((ns.take c).map V.int)) hd2
  have e1 : (upd (upd H d1 (HO.lst ((ns.drop c).map V.int))) d2 (HO.lst ((ns.take c).map V.int))) d1 = some (.lst ((ns.drop c).map V.int)) := t2 _ _ upd_same
  refine r_catR (sqe e1) (sqe upd_same) (by rw [List.length_map, List.length_map, List.length_drop, List.length_take]; omega) fun d3 hd3 => ?_
  rw [← List.map_append]
  exact q _ _ ((t1.trans t2).trans (Same.new hd3)) ((t1.trans t2).free hd3) upd_same
theorem rgV_up (n : Nat) (h : 1 ≤ n) : rgV 1 (n : Int) = ((upI n).drop 1).map V.int := by
  unfold rgV upI
  have e : ((n : Int) - 1).toNat = n - 1 := by omega
  rw [e]
  refine List.ext_getElem? fun i => ?_
  rw [List.getElem?_map, List.getElem?_map, List.getElem?_drop, List.getElem?_map]
  by_cases h : i < n - 1
  · rw [List.getElem?_range h, List.getElem?_range (by omega)]
    show some (V.int (1 + (i : Int))) = some (V.int (((1 + i : Nat)) : Int))
    congr 2
  · rw [List.getElem?_eq_none (by rw [List.length_range]; omega), List.getElem?_eq_none (by rw [List.length_range]; omega)]
    rfl
theorem up_cons (n : Nat) (h : 1 ≤ n) : upI n = 0 :: (upI n).drop 1 := by
  unfold upI
  cases n with
  | zero => omega
  | succ n =>
    rw [List.range_succ_eq_map]
    rfl
theorem sum_bound {B : Int} : ∀ {l : List Int}, (∀ x ∈ l, 0 ≤ x ∧ x ≤ B) → 0 ≤ l.sum ∧ l.sum ≤ l.length * B
  | [], _ => by simp
  | a :: r, h => by
    have h1 := h a (List.mem_cons_self ..)
    have h2 := sum_bound (B := B) (l := r) fun x hx => h x (List.mem_cons_of_mem _ hx)
    rw [List.sum_cons, List.length_cons]
    have e : (((r.length + 1 : Nat)) : Int) * B = r.length * B + B := by
      rw [Int.natCast_add, Int.add_mul, Int.natCast_one, Int.one_mul]
    rw [e]
    omega
theorem waits_mem {w : Int} (hw : 1 ≤ w) {lot : List (Int × Int)} {ns : List Int} : ∀ x ∈ waitsF w lot ns, 0 ≤ x ∧ x < w := by
  intro x hx
  unfold waitsF at hx
  obtain ⟨p, _, rfl⟩ := List.mem_map.mp hx
  unfold waitP
  exact ⟨Int.emod_nonneg _ (by omega), Int.emod_lt_of_pos _ (by omega)⟩
theorem rounds_bound {w : Int} {lot : List (Int × Int)} {ns : List Int} (R : RingOk w lot) (h : OrdOk lot.length ns) : 0 ≤ ((waitsF w lot ns).sum + (lens lot).sum) / w ∧ ((waitsF w lot ns).sum + (lens lot).sum) / w < 2 ^ 150 := by
  have w1 := R.w1
  have w2 := R.w2
  have n2 := R.n2
  have a := sum_bound (B := 10 ^ 30) (l := waitsF w lot ns) fun x hx => by
    have := waits_mem w1 x hx
    omega
  have b := sum_bound (B := 10 ^ 31) (l := lens lot) fun x hx => by
    unfold lens at hx
    obtain ⟨p, hp, rfl⟩ := List.mem_map.mp hx
    have := R.rc p hp
    exact ⟨by have := this.2.2.1; omega, this.2.2.2⟩
  have la : (waitsF w lot ns).length ≤ 30 := by rw [waits_len, h.len]; exact n2
  have lb : (lens lot).length ≤ 30 := by unfold lens; rw [List.length_map]; exact n2
  have la2 : ((waitsF w lot ns).length : Int) * 10 ^ 30 ≤ 30 * 10 ^ 30 := Int.mul_le_mul_of_nonneg_right (by omega) (by decide)
  have lb2 : ((lens lot).length : Int) * 10 ^ 31 ≤ 30 * 10 ^ 31 := Int.mul_le_mul_of_nonneg_right (by omega) (by decide)
  have c0 : 0 ≤ (waitsF w lot ns).sum + (lens lot).sum := by omega
  have c1 := Int.ediv_le_self w c0
  exact ⟨Int.ediv_nonneg c0 (by omega), by omega⟩
theorem ring_moved {w b : Int} {lot : List (Int × Int)} (R : RingOk w lot) : RingOk w (movedF w b lot) := by
  have w1 := R.w1
  refine ⟨R.w1, R.w2, by rw [movedF_len]; exact R.n1, by rw [movedF_len]; exact R.n2, fun p hp => ?_⟩
  unfold movedF at hp
  obtain ⟨q, hq, rfl⟩ := List.mem_map.mp hp
  have := R.rc q hq
  exact ⟨Int.emod_nonneg _ (by omega), Int.emod_lt_of_pos _ (by omega), this.2.2.1, this.2.2.2⟩
theorem IntsAt.sx {H H' : Hp} {a l : Addr} {ns : List Int} (h : IntsAt H l ns) (n : l ≠ a) (k : Sx a H H') : IntsAt H' l ns := k _ _ n h
/-- the heap while the law looks -/
structure Wd (a l : Addr) (lot : List (Int × Int)) (H0 : Hp) (M : Nat) (H : Hp) : Prop where
  lt : LotAt H l lot
  sx : Sx a H0 H
  sr : Src a M H
theorem Wd.same {a l : Addr} {lot : List (Int × Int)} {H0 H H' : Hp} {M : Nat} (h : Wd a l lot H0 M H) (k : Same H H') : Wd a l lot H0 M H' := ⟨h.lt.same k, h.sx.trans (Sx.of k), h.sr.same k⟩
theorem Wd.draw {a l : Addr} {lot : List (Int × Int)} {H0 H H' : Hp} {M M' : Nat} (h : Wd a l lot H0 M H) (n : l ≠ a) (k : Sx a H H') (s : Src a M' H') : Wd a l lot H0 M' H' := ⟨h.lt.sx h.sr n k, h.sx.trans k, s⟩
theorem Wd.ne {a l p : Addr} {lot : List (Int × Int)} {H0 H : Hp} {M : Nat} (h : Wd a l lot H0 M H) (n : H p = none) : p ≠ a := by
  obtain ⟨_, _, _, q, _⟩ := h.sr
  exact fun e => ne_of_none q n e.symm
section
variable {P : Program} {w : World} {K : PySem.W.Frag} {mg : Str → Option Value} {base : Heap}
def spLRight : Sp := fun vs H Q _ => ∃ (a l : Addr) (wd : Int) (lot : List (Int × Int)) (N : Nat), vs = [.ref a, .int wd, .ref l] ∧ Src a N H ∧ LotAt H l lot ∧ RingOk wd lot ∧ l ≠ a ∧ N + 200 < 10 ^ 9 ∧
  ∀ H', Sx a H H' → Src a (N + 100) H' → Q (.bl true) H'
theorem ok_law_right (T : Tx K mg) : FnOk P w K mg base CX0 8 T.a_law_right T.d_law_right P_law_right spLRight := by
  refine T.p_law_right.fn.ok sc_law_right (fun vs H Q E h => ?_) (fun cdv A outer s H vs Q E hr h => ?_)
  · obtain ⟨a, l, wd, lot, N, rfl, _⟩ := h
    rfl
  · obtain ⟨a, l, wd, lot, N, rfl, hs, hl, R, nla, hN, k⟩ := h
    have n1 := R.n1
    have n2 := R.n2
    have w1 := R.w1
    have w2 := R.w2
    have W0 : Wd a l lot H N H := ⟨hl, Sx.refl _ _, hs⟩
    refine ⟨_, (pss_cons (ps_set (i := 3) sc_law_right.nd rfl (.inl rfl) (pe_op op_catR (pe_lst (pa_cons pe_int pa_nil)) (pe_call (ok_law_mixed T) (hr.mono (by decide)) (by rfl) T.p_law_mixed.g T.p_law_mixed.fn.kp T.p_law_mixed.b .nil pass0 (pa_cons (pv 0) (pa_cons (pe_listRg rfl (by rfl) T.n_list (prg_2 (by rfl) T.n_range pe_int (pe_callB call_len2 (by rfl) T.n_len (by rfl) (pa_cons (pv 2) pa_nil)))) pa_nil)))))
      (pss_cons (ps_par (i := 4) (j := 5) rfl sc_law_right.nd rfl rfl (by decide) rfl rfl (pa_cons (pe_call (ok_lap_waits T) (hr.mono (by decide)) (by rfl) T.p_lap_waits.g T.p_lap_waits.fn.kp T.p_lap_waits.b .nil pass0 (pa_cons (pv 1) (pa_cons (pv 2) (pa_cons (pv 3) pa_nil)))) (pa_cons (pe_call (ok_lap_rounds T) (hr.mono (by decide)) (by rfl) T.p_lap_rounds.g T.p_lap_rounds.fn.kp T.p_lap_rounds.b .nil pass0 (pa_cons (pv 1) (pa_cons (pv 2) (pa_cons (pv 3) pa_nil)))) pa_nil)) (by rfl))
      (pss_cons (ps_if (pw_or (pt_cmpR op_ne (pv 5) (pe_call (ok_law_rounds T) (hr.mono (by decide)) (by rfl) T.p_law_rounds.g T.p_law_rounds.fn.kp T.p_law_rounds.b .nil pass0 (pa_cons (pv 1) (pa_cons (pv 2) (pa_cons (pv 3) pa_nil)))) (nomark _)) (pw_or1 (pt_cmpR op_ne (pe_op op_mulW (pv 5) (pv 1)) (pe_op op_add (pe_callB (cr_sum rfl) (by rfl) T.n_sum (by rfl) (pa_cons (pv 4) pa_nil)) (pe_callB (cr_sum rfl) (by rfl) T.n_sum (by rfl) (pa_cons (pe_lc (own := [("at", 16), ("size", 17)]) (tt := tYes) rfl sc_law_right.nd (pi_list (pv 2)) (blkOk_by (N := N_law_right) (sc := defScope s_law_right) (by decide +kernel)) (fun _ _ _ _ _ => by exact (pg_tupK (n := 2) (K := K) rfl rfl (pgs_cons (pg_name (i := 16) sc_law_right.nd rfl (.inl rfl)) (pgs_cons (pg_name (i := 17) sc_law_right.nd rfl (.inl rfl)) pgs_nil)))) (fun _ _ _ _ _ => pts_nil) (fun _ _ _ _ _ => by exact (pv 17))) pa_nil))) (nomark _)))).pt (pss_one (ps_ret pe_bl)) pss_nil)
      (pss_cons (ps_set (i := 6) sc_law_right.nd rfl (.inl rfl) (pe_call (ok_law_draw T) (hr.mono (by decide)) (by rfl) T.p_law_draw.g T.p_law_draw.fn.kp T.p_law_draw.b .nil pass0 (pa_cons (pv 0) (pa_cons (pe_callB call_len2 (by rfl) T.n_len (by rfl) (pa_cons (pv 2) pa_nil)) pa_nil))))
      (pss_cons (ps_par (i := 7) (j := 8) rfl sc_law_right.nd rfl rfl (by decide) rfl rfl (pa_cons (pe_op op_catR (pe_slice sl_list (pv 3) (po_some (pv 6)) po_none) (pe_slice sl_list (pv 3) po_none (po_some (pv 6)))) (pa_cons (pe_op op_catR (pe_slice sl_list (pv 4) (po_some (pv 6)) po_none) (pe_slice sl_list (pv 4) po_none (po_some (pv 6)))) pa_nil)) (by rfl))
      (pss_cons (ps_set (i := 9) sc_law_right.nd rfl (.inl rfl) (pe_ix ix_tup (pe_ix ix_list (pv 2) (pe_ix ix_list (pv 7) pe_int (fun _ _ => rfl)) (fun _ _ => rfl)) pe_int (fun _ _ => rfl)))
      (pss_cons (ps_if (pt_cmpR op_ne (pe_op op_add (pe_call (ok_trip_ticks T) (hr.mono (by decide)) (by rfl) T.p_trip_ticks.g T.p_trip_ticks.fn.kp T.p_trip_ticks.b .nil pass0 (pa_cons (pv 1) (pa_cons (pv 2) (pa_cons (pv 9) (pa_cons (pv 7) pa_nil))))) (pe_ix ix_list (pv 8) (pe_un un_neg pe_int) (fun _ _ => rfl))) (pe_op op_mulW (pv 5) (pv 1)) (nomark _)) (pss_one (ps_ret pe_bl)) pss_nil)
      (pss_cons (ps_par (i := 10) (j := 11) rfl sc_law_right.nd rfl rfl (by decide) rfl rfl (pa_cons (pe_call (ok_law_draw T) (hr.mono (by decide)) (by rfl) T.p_law_draw.g T.p_law_draw.fn.kp T.p_law_draw.b .nil pass0 (pa_cons (pv 0) (pa_cons (pv 1) pa_nil))) (pa_cons (pe_call (ok_law_mixed T) (hr.mono (by decide)) (by rfl) T.p_law_mixed.g T.p_law_mixed.fn.kp T.p_law_mixed.b .nil pass0 (pa_cons (pv 0) (pa_cons (pv 3) pa_nil))) pa_nil)) (by rfl))
      (pss_cons (ps_asg (pe_call (ok_law_begins T) (hr.mono (by decide)) (by rfl) T.p_law_begins.g T.p_law_begins.fn.kp T.p_law_begins.b .nil pass0 (pa_cons (pv 1) (pa_cons (pv 2) (pa_cons (pv 10) (pa_cons (pv 11) pa_nil))))) (pg_tup (n := 2) rfl (pgs_cons (pg_name (i := 12) sc_law_right.nd rfl (.inl rfl)) (pgs_cons (pg_name (i := 13) sc_law_right.nd rfl (.inl rfl)) pgs_nil))))
      (pss_cons (ps_if (pw_or (pt_cmpR (op_neD (hu64 hr)) (pe_call (ok_trip_begins T) (hr.mono (by decide)) (by rfl) T.p_trip_begins.g T.p_trip_begins.fn.kp T.p_trip_begins.b .nil pass0 (pa_cons (pv 1) (pa_cons (pv 2) (pa_cons (pv 10) (pa_cons (pv 11) pa_nil))))) (pv 12) (nomark _)) (pw_or1 (pt_cmpR op_ne (pe_call (ok_trip_ticks T) (hr.mono (by decide)) (by rfl) T.p_trip_ticks.g T.p_trip_ticks.fn.kp T.p_trip_ticks.b .nil pass0 (pa_cons (pv 1) (pa_cons (pv 2) (pa_cons (pv 10) (pa_cons (pv 11) pa_nil))))) (pv 13) (nomark _)))).pt (pss_one (ps_ret pe_bl)) pss_nil)
      (pss_cons (ps_set (i := 14) sc_law_right.nd rfl (.inl rfl) (pe_call (ok_law_draw T) (hr.mono (by decide)) (by rfl) T.p_law_draw.g T.p_law_draw.fn.kp T.p_law_draw.b .nil pass0 (pa_cons (pv 0) (pa_cons (pe_op op_powW pe_int pe_int) pa_nil))))
      (pss_cons (ps_set (i := 15) sc_law_right.nd rfl (.inl rfl) (pe_call (ok_moved T) (hr.mono (by decide)) (by rfl) T.p_moved.g T.p_moved.fn.kp T.p_moved.b .nil pass0 (pa_cons (pv 1) (pa_cons (pv 2) (pa_cons (pv 14) pa_nil)))))
      (pss_cons (ps_if (pt_cmpR (op_neD (hu64 hr)) (pe_call (ok_trip_begins T) (hr.mono (by decide)) (by rfl) T.p_trip_begins.g T.p_trip_begins.fn.kp T.p_trip_begins.b .nil pass0 (pa_cons (pv 1) (pa_cons (pv 15) (pa_cons (pe_op op_mod (pe_callTy call_intI (by rfl) T.n_int (by rfl) (pa_cons (pe_op op_add (pv 10) (pv 14)) pa_nil)) (pv 1)) (pa_cons (pv 11) pa_nil))))) (pv 12) (nomark _)) (pss_one (ps_ret pe_bl)) pss_nil)
      (pss_one (ps_ret (pe_and (pe_cmpR (op_eqD (hu64 hr)) (pe_call (ok_lap_waits T) (hr.mono (by decide)) (by rfl) T.p_lap_waits.g T.p_lap_waits.fn.kp T.p_lap_waits.b .nil pass0 (pa_cons (pv 1) (pa_cons (pv 15) (pa_cons (pv 3) pa_nil)))) (pv 4) (nomark _)) (pe_and (pe_cmpR op_ge (pe_callB (cr_min rfl) (by rfl) T.n_min (by rfl) (pa_cons (pv 4) pa_nil)) pe_int (nomark _)) (pe_one (pe_cmpR op_lt (pe_callB (cr_max rfl) (by rfl) T.n_max (by rfl) (pa_cons (pv 4) pa_nil)) (pv 1) (nomark _)))))))))))))))))))), ?_⟩
    repeat walk_at "rs"
    refine ⟨by decide, fun p0 hp0 => ?_⟩
    have np0 := W0.ne hp0
    have W1 := W0.same (Same.new (o := .lst [.int 0]) hp0)
    have e0 : IntsAt (upd H p0 (.lst [.int 0])) p0 [0] := upd_same
    revert W1 e0
    generalize upd H p0 (.lst [.int 0]) = H1
    intro W1 e0
    repeat walk_at "rs"
    obtain ⟨xs, hx, hn⟩ := W1.lt.seq
    refine r_len2 (.inl (sqe hx)) ?_
    refine ⟨_, _, rfl, rfl, RgOk.of_le (by decide) (by omega) (by decide) (by omega), fun p1 hp1 => ?_⟩
    rw [hn, rgV_up _ n1]
    have np1 := W1.ne hp1
    have S2 := Same.new (o := HO.lst (((upI lot.length).drop 1).map V.int)) hp1
    have W2 := W1.same S2
    have e1 : IntsAt (upd H1 p1 (.lst (((upI lot.length).drop 1).map V.int))) p1 ((upI lot.length).drop 1) := upd_same
    have e02 := e0.same S2
    revert W2 e1 e02
    generalize upd H1 p1 (.lst (((upI lot.length).drop 1).map V.int)) = H2
    intro W2 e1 e02
    repeat walk_at "rs"
    have ul := (ordok_up lot.length).len
    refine ⟨a, p1, N, _, rfl, W2.sr, e1, np1.symm, by rw [List.length_drop]; omega, by omega, fun p2 H3 ms sx3 sr3 hp2 e2 pm => ?_⟩
    have np2 := W2.ne hp2
    have W3 := W2.draw nla sx3 sr3
    have e03 := e02.sx np0 sx3
    have ml : ms.length = lot.length - 1 := by rw [pm.length_eq, List.length_drop]; omega
    refine r_catR (sqe e03) (sqe e2) (by rw [List.length_map, List.length_map]; simp; omega) fun o ho => ?_
    rw [← List.map_append]
    have no := W3.ne ho
    have S4 := Same.new (o := HO.lst (([0] ++ ms).map V.int)) ho
    have W4 := W3.same S4
    have eo : IntsAt (upd H3 o (.lst (([0] ++ ms).map V.int))) o (0 :: ms) := upd_same
    revert W4 eo
    generalize upd H3 o (.lst (([0] ++ ms).map V.int)) = H4
    intro W4 eo
    have pl : (0 :: ms).Perm (upI lot.length) := by
      rw [up_cons _ n1]
      exact pm.cons 0
    have O := (ordok_up lot.length).perm pl
    have ol := O.len
    generalize hns : 0 :: ms = ns at pl O eo ol
    have g0 : ns[0]? = some 0 := by
      rw [← hns]
      rfl
    repeat walk_at "rs"
    -- waits and rounds
    refine ⟨wd, l, o, lot, ns, rfl, W4.lt, R, eo, O, g0, fun q H5 s5 hq eq5 => ?_⟩
    have nq := W4.ne hq
    have W5 := W4.same s5
    have eo5 := eo.same s5
    repeat walk_at "rs"
    refine ⟨wd, l, o, lot, ns, rfl, W5.lt, R, eo5, O, g0, fun H6 s6 => ?_⟩
    have W6 := W5.same s6
    have eo6 := eo5.same s6
    have eq6 := eq5.same s6
    repeat walk_at "rs"
    refine ⟨wd, l, o, lot, ns, rfl, W6.lt, R, eo6, O, fun H7 s7 => ?_⟩
    have W7 := W6.same s7
    have eo7 := eo6.same s7
    have eq7 := eq6.same s7
    rw [lensO_sum pl]
    repeat walk_at "rs"
    refine iteF' (by rw [decide_eq_true rfl]; rfl) ?_
    have lall := lap_rounds_all w1 pl n1
    repeat walk_at "rs"
    have rb := rounds_bound R O
    have mulOk : CMulW (((waitsF wd lot ns).sum + (lens lot).sum) / wd) wd := wide_mul (a := 150) (b := 120) (by omega) (by omega) (by decide) (by decide) (by decide)
    refine r_I mulOk ?_
    repeat walk_at "rs"
    refine r_sum (sqe eq7) ?_
    repeat walk_at "rs"
    obtain ⟨ys, hy, hyn⟩ := W7.lt.seq
    refine ⟨l, rfl, ⟨ys, sqe hy⟩, fun D hD => ?_⟩
    have kD : ∀ (h : Hp) (acc' : List V), Same H7 h → Same H7 (upd h D (.lst acc')) := fun h acc' q => same_keep hD q
    refine lc_gen ys.length (by omega) (fun i h => Same H7 h) (fun i v h => ∃ p, lot[i]? = some p ∧ v = .int p.2) hD (kD _ _ (Same.refl _)) (fun i h acc acc' _ q => kD _ _ q) ?_ ?_ ?_ ?_ ?_
    · intro h sm
      exact ⟨ys, sqe (sm _ _ hy), Nat.le_refl _⟩
    · intro i h hi sm
      exact go_list (sqe (sm _ _ hy)) hi
    · rintro i h x h' acc Q' hi sm ha ⟨rfl, f1⟩ q
      obtain ⟨a', p, rfl, gp, ta⟩ := lot_item (W7.lt.same sm) (sm _ _ hy) (f1 _ (sqe (sm _ _ hy)))
      refine r_gtup (ste ta) rfl ?_
      repeat walk_at "rs"
      refine ⟨rfl, ?_⟩
      repeat walk_at "rs"
      exact q _ _ sm ha (fun _ _ _ r => r) ⟨p, gp, rfl⟩
    · intro i y h acc acc' _ r
      exact r
    · intro H8 acc s8 ha hlen hF
      have eq : acc = (lens lot).map V.int := by
        refine List.ext_getElem? fun j => ?_
        by_cases hj : j < lot.length
        · obtain ⟨z, gz⟩ := get_of (xs := acc) (i := j) (by omega)
          obtain ⟨p, gp, rfl⟩ := hF j z gz
          unfold lens
          rw [gz, List.getElem?_map, List.getElem?_map, gp]
          rfl
        · rw [List.getElem?_eq_none (by omega), List.getElem?_eq_none (by rw [List.length_map]; unfold lens; rw [List.length_map]; omega)]
      rw [eq] at ha
      repeat walk_at "rs"
      refine r_sum (sqe ha) ?_
      repeat walk_at "rs"
      refine iteF' (by rw [decide_eq_true lall]; rfl) ?_
      have W8 := W7.same s8
      have eo8 := eo7.same s8
      have eq8 := eq7.same s8
      clear ha hF hlen eq hy hyn kD hD
      obtain ⟨zs, hz, hzn⟩ := W8.lt.seq
      repeat walk_at "rs"
      refine r_len2 (.inl (sqe hz)) ?_
      repeat walk_at "rs"
      refine ⟨a, _, _, rfl, W8.sr, by omega, smallc (by omega), by omega, fun cut H9 c0 c1 sx9 sr9 => ?_⟩
      have W9 := W8.draw nla sx9 sr9
      have eo9 := eo8.sx no sx9
      have eq9 := eq8.sx nq sx9
      obtain ⟨c, rfl⟩ : ∃ c : Nat, cut = c := ⟨cut.toNat, by omega⟩
      have wl := waits_len wd lot ns
      repeat walk_at "rs"
      refine r_rot (io := 3) (ic := 6) eo9 (by omega) rfl rfl fun d H10 s10 hd10 ed => ?_
      have W10 := W9.same s10
      have nd := W9.ne hd10
      have eo10 := eo9.same s10
      have eq10 := eq9.same s10
      repeat walk_at "rs"
      refine r_rot (io := 4) (ic := 6) eq10 (by omega) rfl rfl fun e H11 s11 he11 ee => ?_
      have W11 := W10.same s11
      have ne := W10.ne he11
      have eo11 := eo10.same s11
      have eq11 := eq10.same s11
      have ed11 := ed.same s11
      have sp := List.take_append_drop c ns
      have ps : (ns.drop c ++ ns.take c).Perm ns := by
        have z := List.perm_append_comm (l₁ := ns.drop c) (l₂ := ns.take c)
        rw [sp] at z
        exact z
      have O' := O.perm ps
      have pl' := ps.trans pl
      have rot := waits_rot wd lot (ns.take c) (ns.drop c)
      rw [sp] at rot
      have lc : (ns.take c).length = c := by rw [List.length_take]; omega
      rw [lc] at rot
      rw [← rot] at ee
      have sums : (waitsF wd lot (ns.drop c ++ ns.take c)).sum = (waitsF wd lot ns).sum := by
        rw [rot]
        have z := sum_perm (List.perm_append_comm (l₁ := (waitsF wd lot ns).drop c) (l₂ := (waitsF wd lot ns).take c))
        rw [List.take_append_drop] at z
        exact z
      obtain ⟨k1, r1, hk1⟩ : ∃ k1 r1, ns.drop c ++ ns.take c = k1 :: r1 := by
        cases hh : ns.drop c ++ ns.take c with
        | nil =>
          have z := O'.len
          rw [hh] at z
          simp at z
          omega
        | cons k1 r1 => exact ⟨k1, r1, rfl⟩
      rw [hk1] at O' pl' ed11 ee sums
      have rk1 := O'.rng k1 (List.mem_cons_self ..)
      obtain ⟨lw, gl, el⟩ := trip_lap w1 lot k1 r1
      rw [sums, lensO_sum pl'] at el
      clear rot ps ed hk1 sp lc
      repeat walk_at "rs"
      refine r_ixL (sqe ed11) (ints_at (i := 0) rfl) ?_
      obtain ⟨us, ua, hu, uat, uta⟩ := W11.lt.at rk1.1 (by omega)
      refine r_ixL (sqe hu) uat ?_
      repeat walk_at "rs"
      refine r_ixT (ste uta) at0 ?_
      repeat walk_at "rs"
      have rc1 : 0 ≤ (nthP lot k1).1 ∧ (nthP lot k1).1 < wd := by
        have hk : k1.toNat < lot.length := by omega
        have e : nthP lot k1 = lot[k1.toNat] := by
          unfold nthP
          rw [List.getD_eq_getElem?_getD, List.getElem?_eq_getElem hk]
          rfl
        have z := R.rc _ (List.getElem_mem hk)
        rw [← e] at z
        exact ⟨z.1, z.2.1⟩
      refine ⟨wd, _, l, d, lot, k1 :: r1, rfl, W11.lt, R, rc1.1, rc1.2, ed11, O', fun H12 s12 => ?_⟩
      have W12 := W11.same s12
      have eo12 := eo11.same s12
      have eq12 := eq11.same s12
      have ee12 := ee.same s12
      clear hu uat uta us ua ed11
      repeat walk_at "rs"
      refine r_ixL (sqe ee12) (nth_last gl) ?_
      repeat walk_at "rs"
      refine r_I mulOk ?_
      repeat walk_at "rs"
      refine iteF' (by rw [decide_eq_true (el.trans lall.symm)]; rfl) ?_
      repeat walk_at "rs"
      refine ⟨a, _, _, rfl, W12.sr, by omega, smallc (by omega), by omega, fun spot H13 sp0 sp1 sx13 sr13 => ?_⟩
      have W13 := W12.draw nla sx13 sr13
      have eo13 := eo12.sx no sx13
      have eq13 := eq12.sx nq sx13
      repeat walk_at "rs"
      refine ⟨a, o, _, ns, rfl, W13.sr, eo13, no.symm, by omega, by omega, fun p H14 ms2 sx14 sr14 hp14 ep pm2 => ?_⟩
      have np := W13.ne hp14
      have W14 := W13.draw nla sx14 sr14
      have eo14 := eo13.sx no sx14
      have eq14 := eq13.sx nq sx14
      have O2 := O.perm pm2
      repeat walk_at "rs"
      refine ⟨wd, spot, l, p, lot, ms2, rfl, W14.lt, R, ep, O2, fun t q2 H15 s15 hq2 et e2' => ?_⟩
      have n2' := W14.ne hq2
      have W15 := W14.same s15
      have eo15 := eo14.same s15
      have eq15 := eq14.same s15
      have ep15 := ep.same s15
      refine r_gtup (ste et) rfl ?_
      walk_at "nm"
      repeat walk_at "rs"
      refine ⟨wd, spot, l, p, lot, ms2, rfl, W15.lt, R, sp0, sp1, ep15, O2, fun q3 H16 s16 hq3 e3 => ?_⟩
      have W16 := W15.same s16
      have eo16 := eo15.same s16
      have eq16 := eq15.same s16
      have ep16 := ep15.same s16
      have ed16 := e2'.same s16
      repeat walk_at "rs"
      refine r_neInts (sqe e3) (sqe ed16) ?_
      repeat walk_at "rs"
      refine iteF' (by rw [decide_eq_true rfl]; rfl) ?_
      repeat walk_at "rs"
      refine ⟨wd, spot, l, p, lot, ms2, rfl, W16.lt, R, sp0, sp1, ep16, O2, fun H17 s17 => ?_⟩
      have W17 := W16.same s17
      have eo17 := eo16.same s17
      have eq17 := eq16.same s17
      have ep17 := ep16.same s17
      have ed17 := ed16.same s17
      repeat walk_at "rs"
      refine iteF' (by rw [decide_eq_true rfl]; rfl) ?_
      repeat walk_at "rs"
      refine r_I (cpow 40 (by decide) (n := 10) (by decide) (by decide)) ?_
      repeat walk_at "rs"
      refine ⟨a, _, _, rfl, W17.sr, by decide, smallc (by decide), by omega, fun by_ H18 by0 by1 sx18 sr18 => ?_⟩
      have W18 := W17.draw nla sx18 sr18
      have eo18 := eo17.sx no sx18
      have eq18 := eq17.sx nq sx18
      have ep18 := ep17.sx np sx18
      have ed18 := ed17.sx n2' sx18
      repeat walk_at "rs"
      refine ⟨wd, by_, l, lot, rfl, W18.lt, R, fun fr H19 s19 hfr lfr => ?_⟩
      have W19 := W18.same s19
      have eo19 := eo18.same s19
      have eq19 := eq18.same s19
      have ep19 := ep18.same s19
      have ed19 := ed18.same s19
      have Rm := ring_moved (b := by_) R
      have mvl := movedF_len wd by_ lot
      repeat walk_at "rs"
      refine r_I (by omega) ?_
      repeat walk_at "rs"
      refine ⟨wd, _, fr, p, _, ms2, rfl, lfr, Rm, Int.emod_nonneg _ (by omega), Int.emod_lt_of_pos _ (by omega), ep19, by rw [mvl]; exact O2, fun q4 H20 s20 hq4 e4 => ?_⟩
      rw [begins_moved O2.rng] at e4
      have W20 := W19.same s20
      have eo20 := eo19.same s20
      have eq20 := eq19.same s20
      have ed20 := ed19.same s20
      have lf20 := lfr.same s20
      repeat walk_at "rs"
      refine r_neInts (sqe e4) (sqe ed20) ?_
      repeat walk_at "rs"
      refine iteF' (by rw [decide_eq_true rfl]; rfl) ?_
      repeat walk_at "rs"
      refine ⟨wd, fr, o, _, ns, rfl, lf20, Rm, eo20, by rw [mvl]; exact O, g0, fun q5 H21 s21 hq5 e5 => ?_⟩
      rw [waits_moved O] at e5
      have W21 := W20.same s21
      have eq21 := eq20.same s21
      repeat walk_at "rs"
      refine r_eqInts (sqe e5) (sqe eq21) ?_
      rw [decide_eq_true rfl]
      repeat walk_at "rs"
      refine ⟨q, _, rfl, sqe eq21, by omega, fun mn hmn _ => ?_⟩
      have bmn := waits_mem w1 mn hmn
      repeat walk_at "rs"
      refine iteT' (decide_eq_true bmn.1) ?_
      repeat walk_at "rs"
      refine ⟨q, _, rfl, sqe eq21, by omega, fun mx hmx _ => ?_⟩
      have bmx := waits_mem w1 mx hmx
      repeat walk_at "rs"
      rw [decide_eq_true bmx.2]
      have W22 := W21.same (Same.refl _)
      exact k _ W21.sx (W21.sr.le (by omega))
end
end R9
namespace R9
open PySem PySem.Spec PyProof.Rows L2 Rg
local macro_rules | `(tactic| walk_at "rs") => `(tactic| (first
  | with_reducible refine Rg.r_seq ?_ | with_reducible refine Rg.r_asg ?_ | with_reducible refine Rg.r_name ?_ | with_reducible refine Rg.r_drop ?_ | with_reducible refine Rg.r_ret ?_ | with_reducible refine Rg.r_next ?_
  | refine Rg.r_var rfl ?_ | with_reducible refine Rg.r_c ?_ | with_reducible refine Rg.r_op ?_ | with_reducible refine Rg.r_un ?_ | with_reducible refine Rg.r_rU ?_ | with_reducible refine Rg.r_I0 ?_
  | with_reducible refine Rg.r_eqI ?_ | with_reducible refine Rg.r_neI ?_ | with_reducible refine Rg.r_test ?_ | with_reducible refine Rg.r_B ?_ | with_reducible refine Rg.r_bl ?_ | with_reducible refine Rg.r_not ?_ | with_reducible refine Rg.r_and ?_ | with_reducible refine Rg.r_or ?_
  | with_reducible refine Rg.r_andV ?_ | with_reducible refine Rg.r_orV ?_ | with_reducible refine Rg.r_notV ?_ | with_reducible refine Rg.r_if ?_ | with_reducible refine Rg.r_ifE ?_ | with_reducible refine Rg.r_chain ?_
  | with_reducible refine Rg.r_cb ?_ | with_reducible refine Rg.r_call ?_ | with_reducible refine Rg.r_nil ?_ | with_reducible refine Rg.r_cons ?_ | with_reducible refine Rg.r_lst ?_ | with_reducible refine Rg.r_tup ?_ | with_reducible refine Rg.r_sl ?_ | with_reducible refine Rg.r_noP ?_ | with_reducible refine Rg.r_part ?_ | with_reducible refine Rg.r_int ?_
  | with_reducible refine Rg.r_intI ?_ | with_reducible refine Rg.r_intB ?_ | with_reducible refine Rg.r_abs2 ?_ | with_reducible refine Rg.r_mx2 ?_ | with_reducible refine Rg.r_mn2 ?_ | with_reducible refine Rg.r_sub ?_ | with_reducible refine Rg.r_par ?_ | with_reducible refine Rg.r_par2 ?_ | with_reducible refine Rg.r_bm ?_
  | with_reducible refine Rg.r_gcons ?_ | with_reducible refine Rg.r_gnil ?_ | refine Rg.r_aug rfl ?_ | with_reducible refine Rg.r_ip ?_ | with_reducible refine iteT ?_ | with_reducible refine iteF ?_
  | with_reducible refine Rg.r_for ?_ | with_reducible refine Rg.r_lc ?_ | with_reducible refine Rg.r_ilist ?_ | with_reducible refine Rg.r_ienum ?_ | with_reducible refine Rg.r_izip ?_ | with_reducible refine Rg.r_irng1 ?_ | with_reducible refine Rg.r_irng2 ?_))
local macro_rules | `(tactic| walk_at "nm") => `(tactic| simp only [L2.start, List.map_cons, List.map_nil, List.length_cons, List.length_nil, List.replicate_succ, List.replicate_zero, List.cons_append, List.nil_append, List.set_cons_succ, List.set_cons_zero, Nat.reduceAdd, Nat.reduceSub, Nat.zero_add, Nat.add_zero])
theorem at5 {b : Bool} : ∃ v : Int, atI [V.int 5, V.int 30] (if b = true then 1 else 0) = some (.int v) ∧ 1 ≤ v ∧ v ≤ 30 := by
  cases b
  · exact ⟨5, at0, by decide, by decide⟩
  · exact ⟨30, at1, by decide, by decide⟩
/-- nothing that stood has changed but the new source -/
theorem Sx.fresh {s : Addr} {H H1 H' : Hp} (k : Sx s H1 H') (b : Same H H1) (n : H s = none) : Same H H' := fun c o e => k c o (ne_of_none e n) (b c o e)
theorem r_slTake {K : PySem.W.Frag} {H : Hp} {Q : VK} {p : Addr} {ns : List Int} {z : Int} (hs : IntsAt H p ns) (h0 : 0 ≤ z) (h6 : z ≤ 6) (q : ∀ (d : Addr) (ms : List Int), ms.length ≤ 6 → H d = none → Q (.ref d) (upd H d (.lst (ms.map V.int)))) : rSlL K (.ref p) none (some z) H Q := by
  refine r_slL (sqe hs) fun d hd => ?_
  obtain ⟨n, rfl⟩ : ∃ n : Nat, z = n := ⟨z.toNat, by omega⟩
  rw [cut_take, ← List.map_take]
  exact q d _ (by rw [List.length_take]; omega) hd
section
variable {P : Program} {w : World} {K : PySem.W.Frag} {mg : Str → Option Value} {base : Heap}
def spLaw (K : PySem.W.Frag) : Sp := fun vs H Q _ => ∃ (a : Addr) (ns : List Int), vs = [.ref a] ∧ SqL K H a (ns.map V.int) ∧ ns.length ≤ 63 ∧ ∀ H', Q (.bl true) H'
theorem ok_law (T : Tx K mg) : FnOk P w K mg base CX0 9 T.a_law T.d_law P_law (spLaw K) := by
  refine T.p_law.fn.ok sc_law (fun vs H Q E h => ?_) (fun cdv A outer s H vs Q E hr h => ?_)
  · obtain ⟨a, ns, rfl, _⟩ := h
    rfl
  · obtain ⟨a, ns, rfl, hs, h63, k⟩ := h
    refine ⟨_, (pss_cons (ps_for PassesOwn.never rfl (pi_enum (by rfl) T.n_enumerate (pa_cons (pe_slice sl_list (pe_op op_catR (pv 0) (pe_lst (pa_cons pe_int pa_nil))) po_none (po_some (pe_callB (call_mx2 rfl) (by rfl) T.n_max (by rfl) (pa_cons pe_int (pa_cons (pe_callB (call_mn2 rfl) (by rfl) T.n_min (by rfl) (pa_cons (pe_callB call_len2 (by rfl) T.n_len (by rfl) (pa_cons (pv 0) pa_nil)) (pa_cons pe_int pa_nil))) pa_nil))))) pa_nil)) (pg_tup (n := 2) rfl (pgs_cons (pg_name (i := 1) sc_law.nd rfl (.inl rfl)) (pgs_cons (pg_name (i := 2) sc_law.nd rfl (.inl rfl)) pgs_nil))) (pss_cons (ps_set (i := 3) sc_law.nd rfl (.inl rfl) (pe_call (ok_law_source T) (hr.mono (by decide)) (by rfl) T.p_law_source.g T.p_law_source.fn.kp T.p_law_source.b .nil pass0 (pa_cons (pv 2) (pa_cons (pv 1) pa_nil))))
      (pss_one (ps_for PassesOwn.never rfl (pi_range1 rfl T.n_range (pa_cons pe_int pa_nil)) (pg_name (i := 4) sc_law.nd rfl (.inl rfl)) (pss_cons (ps_asg (pe_call (ok_law_far_lot T) (hr.mono (by decide)) (by rfl) T.p_law_far_lot.g T.p_law_far_lot.fn.kp T.p_law_far_lot.b .nil pass0 (pa_cons (pv 3) (pa_cons (pe_op op_add pe_int (pe_call (ok_law_draw T) (hr.mono (by decide)) (by rfl) T.p_law_draw.g T.p_law_draw.fn.kp T.p_law_draw.b .nil pass0 (pa_cons (pv 3) (pa_cons (pe_ix ix_list (pe_lst (pa_cons pe_int (pa_cons pe_int pa_nil))) (pe_callTy call_intB (by rfl) T.n_int (by rfl) (pa_cons (pe_cmpR (op_neD (hu64 hr)) (pv 0) (pe_lst pa_nil) (nomark _)) pa_nil)) (fun _ _ => rfl)) pa_nil)))) pa_nil))) (pg_tup (n := 2) rfl (pgs_cons (pg_name (i := 5) sc_law.nd rfl (.inl rfl)) (pgs_cons (pg_name (i := 6) sc_law.nd rfl (.inl rfl)) pgs_nil))))
      (pss_one (ps_if (pt_not (pt_val (pe_call (ok_law_right T) (hr.mono (by decide)) (by rfl) T.p_law_right.g T.p_law_right.fn.kp T.p_law_right.b .nil pass0 (pa_cons (pv 3) (pa_cons (pv 5) (pa_cons (pv 6) pa_nil)))))) (pss_one (ps_ret pe_bl)) pss_nil)))))))
      (pss_one (ps_ret (pe_cmpR op_eq (pe_call (ok_lap_rounds T) (hr.mono (by decide)) (by rfl) T.p_lap_rounds.g T.p_lap_rounds.fn.kp T.p_lap_rounds.b .nil pass0 (pa_cons (pe_op op_powW pe_int pe_int) (pa_cons (pe_lst (pa_cons (pe_tup (pa_cons (pe_op op_sub (pe_op op_powW pe_int pe_int) pe_int) (pa_cons (pe_op op_powW pe_int pe_int) pa_nil))) pa_nil)) (pa_cons (pe_lst (pa_cons pe_int pa_nil)) pa_nil)))) pe_int (nomark _))))), ?_⟩
    repeat walk_at "rs"
    refine ⟨by decide, fun p hp => ?_⟩
    have s1 := Same.new (o := .lst [.int 0]) hp
    refine r_catR (s1.seq hs) (sqe (xs := [.int 0]) upd_same) (by rw [List.length_map]; simp; omega) fun d hd => ?_
    have s2 := s1.trans (Same.new (o := .lst (ns.map V.int ++ [.int 0])) hd)
    have ed : IntsAt (upd (upd H p (.lst [.int 0])) d (.lst (ns.map V.int ++ [.int 0]))) d (ns ++ [0]) := by
      unfold IntsAt
      rw [upd_same, List.map_append]
      rfl
    revert s2 ed
    generalize upd (upd H p (.lst [.int 0])) d (.lst (ns.map V.int ++ [.int 0])) = H2
    intro s2 ed
    repeat walk_at "rs"
    refine r_len2 (.inl (s2.seq hs)) ?_
    repeat walk_at "rs"
    refine r_slTake ed (by split <;> (try split) <;> omega) (by split <;> (try split) <;> omega) fun e ms m6 he => ?_
    have s3 := s2.trans (Same.new (o := HO.lst (ms.map V.int)) he)
    have ee : IntsAt (upd H2 e (.lst (ms.map V.int))) e ms := upd_same
    revert s3 ee
    generalize upd H2 e (.lst (ms.map V.int)) = H3
    intro s3 ee
    clear ed s2 s1
    repeat walk_at "rs"
    refine ⟨e, _, rfl, sqe ee, ?_⟩
    walk_at "nm"
    have ml : (ms.map V.int).length = ms.length := List.length_map _
    refine for_gen (ms.map V.int).length (fun i σ H' => ∃ y1 y2 y3 y4 y5 y6, σ = [some (.ref a), y1, y2, y3, y4, y5, y6] ∧ Same H3 H') ⟨none, none, none, none, none, none, rfl, Same.refl _⟩ ?_ ?_ ?_ ?_
    · rintro σ H' ⟨y1, y2, y3, y4, y5, y6, rfl, sm⟩
      exact ⟨_, sqe (ee.same sm), Nat.le_refl _⟩
    · rintro i σ H' hi ⟨y1, y2, y3, y4, y5, y6, rfl, sm⟩
      exact go_enum (sqe (ee.same sm)) hi
    · rintro i σ H4 x H5 hi ⟨y1, y2, y3, y4, y5, y6, rfl, sm⟩ ⟨T1, v, rfl, nT, rfl, f⟩
      obtain ⟨cell, gc, rfl⟩ := ints_get (f _ (sqe (ee.same sm)))
      have s5 := sm.trans (Same.new (o := .tup [.int (i : Nat), .int cell]) nT)
      refine r_gtup (ste upd_same) rfl ?_
      revert s5
      generalize upd H4 T1 (.tup [.int (i : Nat), .int cell]) = H5
      intro s5
      repeat walk_at "rs"
      refine ⟨cell, _, rfl, by omega, by omega, fun so H6 s6 nso src => ?_⟩
      have nso3 : H3 so = none := s5.free nso
      have s36 := s5.trans s6
      repeat walk_at "rs"
      refine ⟨2, rfl, by decide, by decide, ?_⟩
      walk_at "nm"
      refine for_gen 2 (fun j σ H' => ∃ y4 y5 y6, σ = [some (.ref a), some (.int (i : Nat)), some (.int cell), some (.ref so), y4, y5, y6] ∧ Sx so H6 H' ∧ Src so (400 * j) H') ⟨y4, y5, y6, rfl, Sx.refl _ _, src⟩ ?_ ?_ ?_ ?_
      · rintro σ H' _
        exact Nat.le_refl _
      · rintro j σ H' hj _
        exact hj
      · rintro j σ H7 x H8 hj ⟨y4, y5, y6, rfl, sx7, sr7⟩ ⟨rfl, rfl⟩
        repeat walk_at "rs"
        refine ⟨by decide, fun p5 hp5 => ?_⟩
        have s8 := Same.new (o := .lst [.int 5, .int 30]) hp5
        have e5 : (upd H8 p5 (.lst [.int 5, .int 30])) p5 = some (.lst [.int 5, .int 30]) := upd_same
        revert s8 e5
        generalize upd H8 p5 (.lst [.int 5, .int 30]) = H9
        intro s8 e5
        repeat walk_at "rs"
        refine ⟨by decide, fun p6 hp6 => ?_⟩
        have s9 := Same.new (o := .lst []) hp6
        have e6 : (upd H9 p6 (.lst [])) p6 = some (.lst []) := upd_same
        have s79 := s8.trans s9
        have e59 := s9 _ _ e5
        revert s79 e6 e59
        generalize upd H9 p6 (.lst []) = H10
        intro e6 s79 e59
        have sxA : Sx so H6 H10 := sx7.trans (Sx.of s79)
        have scr : SqL K H10 a (ns.map V.int) := (Sx.fresh sxA s36 nso3).seq (s3.seq hs)
        refine r_neInts (ms := []) scr (sqe e6) ?_
        repeat walk_at "rs"
        obtain ⟨v, hv, v1, v30⟩ := at5 (b := !decide (ns = []))
        refine r_ixL (sqe e59) hv ?_
        repeat walk_at "rs"
        have srA := sr7.same s79
        refine ⟨so, v, _, rfl, srA, by omega, smallc (by omega), by omega, fun r H11 r0 r1 sx11 sr11 => ?_⟩
        repeat walk_at "rs"
        refine ⟨so, 1 + r, _, rfl, sr11, by omega, by omega, by omega, fun t l wd lot H12 sx12 sr12 et hl ll ln R => ?_⟩
        have nls : l ≠ so := by
          obtain ⟨_, _, _, q, _⟩ := sr11
          exact fun e => ne_of_none q hl e.symm
        refine r_gtup (ste et) rfl ?_
        walk_at "nm"
        repeat walk_at "rs"
        refine ⟨so, l, wd, lot, _, rfl, sr12, ll, R, nls, by omega, fun H13 sx13 sr13 => ?_⟩
        repeat walk_at "rs"
        exact ⟨_, _, _, rfl, ((sxA.trans sx11).trans sx12).trans sx13, sr13.le (by omega)⟩
      · rintro σ H7 ⟨y4, y5, y6, rfl, sx7, sr7⟩
        exact ⟨_, _, _, _, _, _, rfl, Sx.fresh sx7 s36 nso3⟩
    · rintro σ H4 ⟨y1, y2, y3, y4, y5, y6, rfl, sm⟩
      repeat walk_at "rs"
      refine r_I (cpow 30 (by decide) (n := 10) (by decide) (by decide)) ?_
      repeat walk_at "rs"
      refine r_I (cpow 30 (by decide) (n := 10) (by decide) (by decide)) ?_
      repeat walk_at "rs"
      refine r_I (cpow 31 (by decide) (n := 10) (by decide) (by decide)) ?_
      repeat walk_at "rs"
      refine ⟨by show 2 ≤ sizeLine; decide, fun t ht => ?_⟩
      have s1 := Same.new (o := .tup [.int (10 ^ Int.toNat 30 - 1), .int (10 ^ Int.toNat 31)]) ht
      have et : (upd H4 t (.tup [.int (10 ^ Int.toNat 30 - 1), .int (10 ^ Int.toNat 31)])) t = some (.tup [.int (10 ^ Int.toNat 30 - 1), .int (10 ^ Int.toNat 31)]) := upd_same
      revert s1 et
      generalize upd H4 t (.tup [.int (10 ^ Int.toNat 30 - 1), .int (10 ^ Int.toNat 31)]) = H5
      intro s1 et
      repeat walk_at "rs"
      refine ⟨by show 1 ≤ sizeLine; decide, fun l hl => ?_⟩
      have s2 := Same.new (o := .lst [.ref t]) hl
      have el : LotAt (upd H5 l (.lst [.ref t])) l [(10 ^ 30 - 1, 10 ^ 31)] := ⟨[t], upd_same, .cons (s2 _ _ et) .nil⟩
      revert s2 el
      generalize upd H5 l (.lst [.ref t]) = H6
      intro s2 el
      repeat walk_at "rs"
      refine ⟨by show 1 ≤ sizeLine; decide, fun o ho => ?_⟩
      have s3 := Same.new (o := .lst [.int 0]) ho
      have eo : IntsAt (upd H6 o (.lst [.int 0])) o [0] := upd_same
      revert s3 eo
      generalize upd H6 o (.lst [.int 0]) = H7
      intro s3 eo
      repeat walk_at "rs"
      have R : RingOk (10 ^ 30) [(10 ^ 30 - 1, 10 ^ 31)] := ⟨by decide, by decide, by decide, by decide, fun p hp => by
        rw [List.mem_singleton.mp hp]
        exact ⟨by decide, by decide, by decide, by decide⟩⟩
      have O : OrdOk 1 [0] := ⟨rfl, fun x hx => by
        rw [List.mem_singleton.mp hx]
        decide, by simp⟩
      refine ⟨10 ^ 30, l, o, _, [0], rfl, el.same s3, R, eo, O, rfl, fun H8 s8 => ?_⟩
      have e10 : ((waitsF (10 ^ 30) [(10 ^ 30 - 1, 10 ^ 31)] [0]).sum + (lens [(10 ^ 30 - 1, 10 ^ 31)]).sum) / 10 ^ 30 = 10 := by decide +kernel
      rw [e10]
      repeat walk_at "rs"
      exact k _
end
end R9
namespace R9
open PySem PySem.Spec PyProof.Rows L2 Rg
local macro_rules | `(tactic| walk_at "rs") => `(tactic| (first
  | with_reducible refine Rg.r_seq ?_ | with_reducible refine Rg.r_asg ?_ | with_reducible refine Rg.r_name ?_ | with_reducible refine Rg.r_drop ?_ | with_reducible refine Rg.r_ret ?_ | with_reducible refine Rg.r_next ?_
  | refine Rg.r_var rfl ?_ | with_reducible refine Rg.r_c ?_ | with_reducible refine Rg.r_op ?_ | with_reducible refine Rg.r_un ?_ | with_reducible refine Rg.r_rU ?_ | with_reducible refine Rg.r_I0 ?_
  | with_reducible refine Rg.r_eqI ?_ | with_reducible refine Rg.r_neI ?_ | with_reducible refine Rg.r_test ?_ | with_reducible refine Rg.r_B ?_ | with_reducible refine Rg.r_bl ?_ | with_reducible refine Rg.r_not ?_ | with_reducible refine Rg.r_and ?_ | with_reducible refine Rg.r_or ?_
  | with_reducible refine Rg.r_andV ?_ | with_reducible refine Rg.r_orV ?_ | with_reducible refine Rg.r_notV ?_ | with_reducible refine Rg.r_if ?_ | with_reducible refine Rg.r_ifE ?_ | with_reducible refine Rg.r_chain ?_
  | with_reducible refine Rg.r_cb ?_ | with_reducible refine Rg.r_call ?_ | with_reducible refine Rg.r_nil ?_ | with_reducible refine Rg.r_cons ?_ | with_reducible refine Rg.r_lst ?_ | with_reducible refine Rg.r_tup ?_ | with_reducible refine Rg.r_sl ?_ | with_reducible refine Rg.r_noP ?_ | with_reducible refine Rg.r_part ?_ | with_reducible refine Rg.r_int ?_
  | with_reducible refine Rg.r_intI ?_ | with_reducible refine Rg.r_intB ?_ | with_reducible refine Rg.r_abs2 ?_ | with_reducible refine Rg.r_mx2 ?_ | with_reducible refine Rg.r_mn2 ?_ | with_reducible refine Rg.r_sub ?_ | with_reducible refine Rg.r_par ?_ | with_reducible refine Rg.r_par2 ?_ | with_reducible refine Rg.r_bm ?_
  | with_reducible refine Rg.r_gcons ?_ | with_reducible refine Rg.r_gnil ?_ | refine Rg.r_aug rfl ?_ | with_reducible refine Rg.r_ip ?_ | with_reducible refine iteT ?_ | with_reducible refine iteF ?_
  | with_reducible refine Rg.r_for ?_ | with_reducible refine Rg.r_lc ?_ | with_reducible refine Rg.r_ilist ?_ | with_reducible refine Rg.r_ienum ?_ | with_reducible refine Rg.r_izip ?_ | with_reducible refine Rg.r_irng1 ?_ | with_reducible refine Rg.r_irng2 ?_))
local macro_rules | `(tactic| walk_at "nm") => `(tactic| simp only [L2.start, List.map_cons, List.map_nil, List.length_cons, List.length_nil, List.replicate_succ, List.replicate_zero, List.cons_append, List.nil_append, List.set_cons_succ, List.set_cons_zero, Nat.reduceAdd, Nat.reduceSub, Nat.zero_add, Nat.add_zero])
theorem all_mk {l : PySem.W.OpenLaw} {w : World} {K : PySem.W.Frag} {h : Heap} {mg : Str → Option Value} {fa : Addr} (X : K.In h) (G : h.Ns mainGlobals mg) (hfa : mg "law" = some (.ref fa))
    {f0 f1 f2 f3 f4 f5 f6 f7 f8 f9 f10 f11 f12 f13 f14 f15 f16 f17 f18 f19 f20 f21 f22 f23 f24 f25 f26 f27 : Addr} {od0 od1 od2 od3 od4 od5 od6 od7 od8 od9 od10 od11 od12 od13 od14 od15 od16 od17 od18 od19 od20 od21 od22 od23 od24 od25 od26 od27 an0 an1 an2 an3 an4 an5 an6 an7 an8 an9 an10 an11 an12 an13 an14 an15 an16 an17 an18 an19 an20 an21 an22 an23 an24 an25 an26 an27 : Option Addr}
    {sl0 sl1 sl2 sl3 sl4 sl5 sl6 sl7 sl8 sl9 sl10 sl11 sl12 sl13 sl14 sl15 sl16 sl17 sl18 sl19 sl20 sl21 sl22 sl23 sl24 sl25 sl26 sl27 : Array (Option Value)} {oc0 oc1 oc2 oc3 oc4 oc5 oc6 oc7 oc8 oc9 oc10 oc11 oc12 oc13 oc14 oc15 oc16 oc17 oc18 oc19 oc20 oc21 oc22 oc23 oc24 oc25 oc26 oc27 kV0 kV1 kV2 kV3 kV4 kV5 kV6 kV7 kV8 kV9 kV10 kV11 kV12 kV13 kV14 kV15 kV16 kV17 kV18 kV19 kV20 kV21 kV22 kV23 kV24 kV25 kV26 kV27 dc0 dc1 dc2 dc3 dc4 dc5 dc6 dc7 dc8 dc9 dc10 dc11 dc12 dc13 dc14 dc15 dc16 dc17 dc18 dc19 dc20 dc21 dc22 dc23 dc24 dc25 dc26 dc27 pm0 pm1 pm2 pm3 pm4 pm5 pm6 pm7 pm8 pm9 pm10 pm11 pm12 pm13 pm14 pm15 pm16 pm17 pm18 pm19 pm20 pm21 pm22 pm23 pm24 pm25 pm26 pm27 cd0 cd1 cd2 cd3 cd4 cd5 cd6 cd7 cd8 cd9 cd10 cd11 cd12 cd13 cd14 cd15 cd16 cd17 cd18 cd19 cd20 cd21 cd22 cd23 cd24 cd25 cd26 cd27 ct0 ct1 ct2 ct3 ct4 ct5 ct6 ct7 ct8 ct9 ct10 ct11 ct12 ct13 ct14 ct15 ct16 ct17 ct18 ct19 ct20 ct21 ct22 ct23 ct24 ct25 ct26 ct27 : Value}
    (a0 : PySem.W.nsIn K mainGlobals "is_integer" = some (some (.ref f0)))
    (l0 : K.lookup f0 = some ⟨oc0, od0, .func (PySem.W.fnOf "is_integer" "is_integer" (defArgs s_is_integer) (defBody s_is_integer) (defScope s_is_integer) .none kV0 dc0 pm0 an0 cd0 ct0), sl0⟩)
    (c0 : PySem.W.codeIn K cd0 "is_integer" = true) (k0 : PySem.W.keepIn K (.ref f0) = true)
    (a1 : PySem.W.nsIn K mainGlobals "is_between" = some (some (.ref f1)))
    (l1 : K.lookup f1 = some ⟨oc1, od1, .func (PySem.W.fnOf "is_between" "is_between" (defArgs s_is_between) (defBody s_is_between) (defScope s_is_between) .none kV1 dc1 pm1 an1 cd1 ct1), sl1⟩)
    (c1 : PySem.W.codeIn K cd1 "is_between" = true) (k1 : PySem.W.keepIn K (.ref f1) = true)
    (a2 : PySem.W.nsIn K mainGlobals "is_list" = some (some (.ref f2)))
    (l2 : K.lookup f2 = some ⟨oc2, od2, .func (PySem.W.fnOf "is_list" "is_list" (defArgs s_is_list) (defBody s_is_list) (defScope s_is_list) .none kV2 dc2 pm2 an2 cd2 ct2), sl2⟩)
    (c2 : PySem.W.codeIn K cd2 "is_list" = true) (k2 : PySem.W.keepIn K (.ref f2) = true)
    (a3 : PySem.W.nsIn K mainGlobals "is_mark" = some (some (.ref f3)))
    (l3 : K.lookup f3 = some ⟨oc3, od3, .func (PySem.W.fnOf "is_mark" "is_mark" (defArgs s_is_mark) (defBody s_is_mark) (defScope s_is_mark) .none kV3 dc3 pm3 an3 cd3 ct3), sl3⟩)
    (c3 : PySem.W.codeIn K cd3 "is_mark" = true) (k3 : PySem.W.keepIn K (.ref f3) = true)
    (a4 : PySem.W.nsIn K mainGlobals "is_record" = some (some (.ref f4)))
    (l4 : K.lookup f4 = some ⟨oc4, od4, .func (PySem.W.fnOf "is_record" "is_record" (defArgs s_is_record) (defBody s_is_record) (defScope s_is_record) .none kV4 dc4 pm4 an4 cd4 ct4), sl4⟩)
    (c4 : PySem.W.codeIn K cd4 "is_record" = true) (k4 : PySem.W.keepIn K (.ref f4) = true)
    (a5 : PySem.W.nsIn K mainGlobals "is_new_index" = some (some (.ref f5)))
    (l5 : K.lookup f5 = some ⟨oc5, od5, .func (PySem.W.fnOf "is_new_index" "is_new_index" (defArgs s_is_new_index) (defBody s_is_new_index) (defScope s_is_new_index) .none kV5 dc5 pm5 an5 cd5 ct5), sl5⟩)
    (c5 : PySem.W.codeIn K cd5 "is_new_index" = true) (k5 : PySem.W.keepIn K (.ref f5) = true)
    (a6 : PySem.W.nsIn K mainGlobals "check_marks" = some (some (.ref f6)))
    (l6 : K.lookup f6 = some ⟨oc6, od6, .func (PySem.W.fnOf "check_marks" "check_marks" (defArgs s_check_marks) (defBody s_check_marks) (defScope s_check_marks) .none kV6 dc6 pm6 an6 cd6 ct6), sl6⟩)
    (c6 : PySem.W.codeIn K cd6 "check_marks" = true) (k6 : PySem.W.keepIn K (.ref f6) = true)
    (a7 : PySem.W.nsIn K mainGlobals "check_ring" = some (some (.ref f7)))
    (l7 : K.lookup f7 = some ⟨oc7, od7, .func (PySem.W.fnOf "check_ring" "check_ring" (defArgs s_check_ring) (defBody s_check_ring) (defScope s_check_ring) .none kV7 dc7 pm7 an7 cd7 ct7), sl7⟩)
    (c7 : PySem.W.codeIn K cd7 "check_ring" = true) (k7 : PySem.W.keepIn K (.ref f7) = true)
    (a8 : PySem.W.nsIn K mainGlobals "check_mark" = some (some (.ref f8)))
    (l8 : K.lookup f8 = some ⟨oc8, od8, .func (PySem.W.fnOf "check_mark" "check_mark" (defArgs s_check_mark) (defBody s_check_mark) (defScope s_check_mark) .none kV8 dc8 pm8 an8 cd8 ct8), sl8⟩)
    (c8 : PySem.W.codeIn K cd8 "check_mark" = true) (k8 : PySem.W.keepIn K (.ref f8) = true)
    (a9 : PySem.W.nsIn K mainGlobals "check_integer" = some (some (.ref f9)))
    (l9 : K.lookup f9 = some ⟨oc9, od9, .func (PySem.W.fnOf "check_integer" "check_integer" (defArgs s_check_integer) (defBody s_check_integer) (defScope s_check_integer) .none kV9 dc9 pm9 an9 cd9 ct9), sl9⟩)
    (c9 : PySem.W.codeIn K cd9 "check_integer" = true) (k9 : PySem.W.keepIn K (.ref f9) = true)
    (a10 : PySem.W.nsIn K mainGlobals "check_trip" = some (some (.ref f10)))
    (l10 : K.lookup f10 = some ⟨oc10, od10, .func (PySem.W.fnOf "check_trip" "check_trip" (defArgs s_check_trip) (defBody s_check_trip) (defScope s_check_trip) .none kV10 dc10 pm10 an10 cd10 ct10), sl10⟩)
    (c10 : PySem.W.codeIn K cd10 "check_trip" = true) (k10 : PySem.W.keepIn K (.ref f10) = true)
    (a11 : PySem.W.nsIn K mainGlobals "check_lap" = some (some (.ref f11)))
    (l11 : K.lookup f11 = some ⟨oc11, od11, .func (PySem.W.fnOf "check_lap" "check_lap" (defArgs s_check_lap) (defBody s_check_lap) (defScope s_check_lap) .none kV11 dc11 pm11 an11 cd11 ct11), sl11⟩)
    (c11 : PySem.W.codeIn K cd11 "check_lap" = true) (k11 : PySem.W.keepIn K (.ref f11) = true)
    (a12 : PySem.W.nsIn K mainGlobals "end_of" = some (some (.ref f12)))
    (l12 : K.lookup f12 = some ⟨oc12, od12, .func (PySem.W.fnOf "end_of" "end_of" (defArgs s_end_of) (defBody s_end_of) (defScope s_end_of) .none kV12 dc12 pm12 an12 cd12 ct12), sl12⟩)
    (c12 : PySem.W.codeIn K cd12 "end_of" = true) (k12 : PySem.W.keepIn K (.ref f12) = true)
    (a13 : PySem.W.nsIn K mainGlobals "moved" = some (some (.ref f13)))
    (l13 : K.lookup f13 = some ⟨oc13, od13, .func (PySem.W.fnOf "moved" "moved" (defArgs s_moved) (defBody s_moved) (defScope s_moved) .none kV13 dc13 pm13 an13 cd13 ct13), sl13⟩)
    (c13 : PySem.W.codeIn K cd13 "moved" = true) (k13 : PySem.W.keepIn K (.ref f13) = true)
    (a14 : PySem.W.nsIn K mainGlobals "wait_between" = some (some (.ref f14)))
    (l14 : K.lookup f14 = some ⟨oc14, od14, .func (PySem.W.fnOf "wait_between" "wait_between" (defArgs s_wait_between) (defBody s_wait_between) (defScope s_wait_between) .none kV14 dc14 pm14 an14 cd14 ct14), sl14⟩)
    (c14 : PySem.W.codeIn K cd14 "wait_between" = true) (k14 : PySem.W.keepIn K (.ref f14) = true)
    (a15 : PySem.W.nsIn K mainGlobals "lap_waits" = some (some (.ref f15)))
    (l15 : K.lookup f15 = some ⟨oc15, od15, .func (PySem.W.fnOf "lap_waits" "lap_waits" (defArgs s_lap_waits) (defBody s_lap_waits) (defScope s_lap_waits) .none kV15 dc15 pm15 an15 cd15 ct15), sl15⟩)
    (c15 : PySem.W.codeIn K cd15 "lap_waits" = true) (k15 : PySem.W.keepIn K (.ref f15) = true)
    (a16 : PySem.W.nsIn K mainGlobals "lap_rounds" = some (some (.ref f16)))
    (l16 : K.lookup f16 = some ⟨oc16, od16, .func (PySem.W.fnOf "lap_rounds" "lap_rounds" (defArgs s_lap_rounds) (defBody s_lap_rounds) (defScope s_lap_rounds) .none kV16 dc16 pm16 an16 cd16 ct16), sl16⟩)
    (c16 : PySem.W.codeIn K cd16 "lap_rounds" = true) (k16 : PySem.W.keepIn K (.ref f16) = true)
    (a17 : PySem.W.nsIn K mainGlobals "trip_begins" = some (some (.ref f17)))
    (l17 : K.lookup f17 = some ⟨oc17, od17, .func (PySem.W.fnOf "trip_begins" "trip_begins" (defArgs s_trip_begins) (defBody s_trip_begins) (defScope s_trip_begins) .none kV17 dc17 pm17 an17 cd17 ct17), sl17⟩)
    (c17 : PySem.W.codeIn K cd17 "trip_begins" = true) (k17 : PySem.W.keepIn K (.ref f17) = true)
    (a18 : PySem.W.nsIn K mainGlobals "trip_ticks" = some (some (.ref f18)))
    (l18 : K.lookup f18 = some ⟨oc18, od18, .func (PySem.W.fnOf "trip_ticks" "trip_ticks" (defArgs s_trip_ticks) (defBody s_trip_ticks) (defScope s_trip_ticks) .none kV18 dc18 pm18 an18 cd18 ct18), sl18⟩)
    (c18 : PySem.W.codeIn K cd18 "trip_ticks" = true) (k18 : PySem.W.keepIn K (.ref f18) = true)
    (a19 : PySem.W.nsIn K mainGlobals "_law_source" = some (some (.ref f19)))
    (l19 : K.lookup f19 = some ⟨oc19, od19, .func (PySem.W.fnOf "_law_source" "_law_source" (defArgs s_law_source) (defBody s_law_source) (defScope s_law_source) .none kV19 dc19 pm19 an19 cd19 ct19), sl19⟩)
    (c19 : PySem.W.codeIn K cd19 "_law_source" = true) (k19 : PySem.W.keepIn K (.ref f19) = true)
    (a20 : PySem.W.nsIn K mainGlobals "_law_draw" = some (some (.ref f20)))
    (l20 : K.lookup f20 = some ⟨oc20, od20, .func (PySem.W.fnOf "_law_draw" "_law_draw" (defArgs s_law_draw) (defBody s_law_draw) (defScope s_law_draw) .none kV20 dc20 pm20 an20 cd20 ct20), sl20⟩)
    (c20 : PySem.W.codeIn K cd20 "_law_draw" = true) (k20 : PySem.W.keepIn K (.ref f20) = true)
    (a21 : PySem.W.nsIn K mainGlobals "_law_mixed" = some (some (.ref f21)))
    (l21 : K.lookup f21 = some ⟨oc21, od21, .func (PySem.W.fnOf "_law_mixed" "_law_mixed" (defArgs s_law_mixed) (defBody s_law_mixed) (defScope s_law_mixed) .none kV21 dc21 pm21 an21 cd21 ct21), sl21⟩)
    (c21 : PySem.W.codeIn K cd21 "_law_mixed" = true) (k21 : PySem.W.keepIn K (.ref f21) = true)
    (a22 : PySem.W.nsIn K mainGlobals "_law_end" = some (some (.ref f22)))
    (l22 : K.lookup f22 = some ⟨oc22, od22, .func (PySem.W.fnOf "_law_end" "_law_end" (defArgs s_law_end) (defBody s_law_end) (defScope s_law_end) .none kV22 dc22 pm22 an22 cd22 ct22), sl22⟩)
    (c22 : PySem.W.codeIn K cd22 "_law_end" = true) (k22 : PySem.W.keepIn K (.ref f22) = true)
    (a23 : PySem.W.nsIn K mainGlobals "_law_rounds" = some (some (.ref f23)))
    (l23 : K.lookup f23 = some ⟨oc23, od23, .func (PySem.W.fnOf "_law_rounds" "_law_rounds" (defArgs s_law_rounds) (defBody s_law_rounds) (defScope s_law_rounds) .none kV23 dc23 pm23 an23 cd23 ct23), sl23⟩)
    (c23 : PySem.W.codeIn K cd23 "_law_rounds" = true) (k23 : PySem.W.keepIn K (.ref f23) = true)
    (a24 : PySem.W.nsIn K mainGlobals "_law_begins" = some (some (.ref f24)))
    (l24 : K.lookup f24 = some ⟨oc24, od24, .func (PySem.W.fnOf "_law_begins" "_law_begins" (defArgs s_law_begins) (defBody s_law_begins) (defScope s_law_begins) .none kV24 dc24 pm24 an24 cd24 ct24), sl24⟩)
    (c24 : PySem.W.codeIn K cd24 "_law_begins" = true) (k24 : PySem.W.keepIn K (.ref f24) = true)
    (a25 : PySem.W.nsIn K mainGlobals "_law_far_lot" = some (some (.ref f25)))
    (l25 : K.lookup f25 = some ⟨oc25, od25, .func (PySem.W.fnOf "_law_far_lot" "_law_far_lot" (defArgs s_law_far_lot) (defBody s_law_far_lot) (defScope s_law_far_lot) .none kV25 dc25 pm25 an25 cd25 ct25), sl25⟩)
    (c25 : PySem.W.codeIn K cd25 "_law_far_lot" = true) (k25 : PySem.W.keepIn K (.ref f25) = true)
    (a26 : PySem.W.nsIn K mainGlobals "_law_right" = some (some (.ref f26)))
    (l26 : K.lookup f26 = some ⟨oc26, od26, .func (PySem.W.fnOf "_law_right" "_law_right" (defArgs s_law_right) (defBody s_law_right) (defScope s_law_right) .none kV26 dc26 pm26 an26 cd26 ct26), sl26⟩)
    (c26 : PySem.W.codeIn K cd26 "_law_right" = true) (k26 : PySem.W.keepIn K (.ref f26) = true)
    (a27 : PySem.W.nsIn K mainGlobals "law" = some (some (.ref f27)))
    (l27 : K.lookup f27 = some ⟨oc27, od27, .func (PySem.W.fnOf "law" "law" (defArgs s_law) (defBody s_law) (defScope s_law) .none kV27 dc27 pm27 an27 cd27 ct27), sl27⟩)
    (c27 : PySem.W.codeIn K cd27 "law" = true) (k27 : PySem.W.keepIn K (.ref f27) = true)
    (z_abs : PySem.W.nsIn K mainGlobals "abs" = some none)
    (z_bool : PySem.W.nsIn K mainGlobals "bool" = some none)
    (z_enumerate : PySem.W.nsIn K mainGlobals "enumerate" = some none)
    (z_int : PySem.W.nsIn K mainGlobals "int" = some none)
    (z_isinstance : PySem.W.nsIn K mainGlobals "isinstance" = some none)
    (z_len : PySem.W.nsIn K mainGlobals "len" = some none)
    (z_list : PySem.W.nsIn K mainGlobals "list" = some none)
    (z_max : PySem.W.nsIn K mainGlobals "max" = some none)
    (z_min : PySem.W.nsIn K mainGlobals "min" = some none)
    (z_range : PySem.W.nsIn K mainGlobals "range" = some none)
    (z_sum : PySem.W.nsIn K mainGlobals "sum" = some none)
    (z_tuple : PySem.W.nsIn K mainGlobals "tuple" = some none)
    (z_type : PySem.W.nsIn K mainGlobals "type" = some none)
    (z_zip : PySem.W.nsIn K mainGlobals "zip" = some none)
    {t_MOST_LENGTH : Tok} (q_MOST_LENGTH : PySem.W.nsIn K mainGlobals "MOST_LENGTH" = some (some (.int (10000000000000000000000000000000) t_MOST_LENGTH)))
    {t_MOST_MARKS : Tok} (q_MOST_MARKS : PySem.W.nsIn K mainGlobals "MOST_MARKS" = some (some (.int (1000000000000000000000000000000) t_MOST_MARKS)))
    {t_MOST_RECORDS : Tok} (q_MOST_RECORDS : PySem.W.nsIn K mainGlobals "MOST_RECORDS" = some (some (.int (30) t_MOST_RECORDS)))
    : ∃ fd : FuncData, (∀ (s : Shared) (v : Value), BindsTo s fd ⟨[v], []⟩ [("script", v)]) ∧ ∀ base : Heap, K.In base → base.Ns mainGlobals mg → FnOk l.prog w K mg base CX0 9 fa fd ["script"] (spLaw K) := by
  have e := hfa.symm.trans (PySem.W.mg_of X G a27)
  cases e
  have w_MOST_LENGTH : mg "MOST_LENGTH" = some (.int (10 ^ 31) t_MOST_LENGTH) := (PySem.W.mg_of X G q_MOST_LENGTH).trans (congrArg (fun z => some (Value.int z t_MOST_LENGTH)) (by decide))
  have w_MOST_MARKS : mg "MOST_MARKS" = some (.int (10 ^ 30) t_MOST_MARKS) := (PySem.W.mg_of X G q_MOST_MARKS).trans (congrArg (fun z => some (Value.int z t_MOST_MARKS)) (by decide))
  have w_MOST_RECORDS : mg "MOST_RECORDS" = some (.int (30) t_MOST_RECORDS) := (PySem.W.mg_of X G q_MOST_RECORDS).trans (congrArg (fun z => some (Value.int z t_MOST_RECORDS)) (by decide))
  have F0 := fun_mk (st := s_is_integer) l0 c0 k0
  have B0 := F0.binds (ps := P_is_integer) fun _ _ _ _ _ _ us hl => match us, hl with | [_], _ => rfl
  have F1 := fun_mk (st := s_is_between) l1 c1 k1
  have B1 := F1.binds (ps := P_is_between) fun _ _ _ _ _ _ us hl => match us, hl with | [_, _, _], _ => rfl
  have F2 := fun_mk (st := s_is_list) l2 c2 k2
  have B2 := F2.binds (ps := P_is_list) fun _ _ _ _ _ _ us hl => match us, hl with | [_, _, _], _ => rfl
  have F3 := fun_mk (st := s_is_mark) l3 c3 k3
  have B3 := F3.binds (ps := P_is_mark) fun _ _ _ _ _ _ us hl => match us, hl with | [_, _], _ => rfl
  have F4 := fun_mk (st := s_is_record) l4 c4 k4
  have B4 := F4.binds (ps := P_is_record) fun _ _ _ _ _ _ us hl => match us, hl with | [_, _], _ => rfl
  have F5 := fun_mk (st := s_is_new_index) l5 c5 k5
  have B5 := F5.binds (ps := P_is_new_index) fun _ _ _ _ _ _ us hl => match us, hl with | [_, _, _], _ => rfl
  have F6 := fun_mk (st := s_check_marks) l6 c6 k6
  have B6 := F6.binds (ps := P_check_marks) fun _ _ _ _ _ _ us hl => match us, hl with | [_], _ => rfl
  have F7 := fun_mk (st := s_check_ring) l7 c7 k7
  have B7 := F7.binds (ps := P_check_ring) fun _ _ _ _ _ _ us hl => match us, hl with | [_, _], _ => rfl
  have F8 := fun_mk (st := s_check_mark) l8 c8 k8
  have B8 := F8.binds (ps := P_check_mark) fun _ _ _ _ _ _ us hl => match us, hl with | [_, _], _ => rfl
  have F9 := fun_mk (st := s_check_integer) l9 c9 k9
  have B9 := F9.binds (ps := P_check_integer) fun _ _ _ _ _ _ us hl => match us, hl with | [_], _ => rfl
  have F10 := fun_mk (st := s_check_trip) l10 c10 k10
  have B10 := F10.binds (ps := P_check_trip) fun _ _ _ _ _ _ us hl => match us, hl with | [_, _], _ => rfl
  have F11 := fun_mk (st := s_check_lap) l11 c11 k11
  have B11 := F11.binds (ps := P_check_lap) fun _ _ _ _ _ _ us hl => match us, hl with | [_, _], _ => rfl
  have F12 := fun_mk (st := s_end_of) l12 c12 k12
  have B12 := F12.binds (ps := P_end_of) fun _ _ _ _ _ _ us hl => match us, hl with | [_, _], _ => rfl
  have F13 := fun_mk (st := s_moved) l13 c13 k13
  have B13 := F13.binds (ps := P_moved) fun _ _ _ _ _ _ us hl => match us, hl with | [_, _, _], _ => rfl
  have F14 := fun_mk (st := s_wait_between) l14 c14 k14
  have B14 := F14.binds (ps := P_wait_between) fun _ _ _ _ _ _ us hl => match us, hl with | [_, _, _], _ => rfl
  have F15 := fun_mk (st := s_lap_waits) l15 c15 k15
  have B15 := F15.binds (ps := P_lap_waits) fun _ _ _ _ _ _ us hl => match us, hl with | [_, _, _], _ => rfl
  have F16 := fun_mk (st := s_lap_rounds) l16 c16 k16
  have B16 := F16.binds (ps := P_lap_rounds) fun _ _ _ _ _ _ us hl => match us, hl with | [_, _, _], _ => rfl
  have F17 := fun_mk (st := s_trip_begins) l17 c17 k17
  have B17 := F17.binds (ps := P_trip_begins) fun _ _ _ _ _ _ us hl => match us, hl with | [_, _, _, _], _ => rfl
  have F18 := fun_mk (st := s_trip_ticks) l18 c18 k18
  have B18 := F18.binds (ps := P_trip_ticks) fun _ _ _ _ _ _ us hl => match us, hl with | [_, _, _, _], _ => rfl
  have F19 := fun_mk (st := s_law_source) l19 c19 k19
  have B19 := F19.binds (ps := P_law_source) fun _ _ _ _ _ _ us hl => match us, hl with | [_, _], _ => rfl
  have F20 := fun_mk (st := s_law_draw) l20 c20 k20
  have B20 := F20.binds (ps := P_law_draw) fun _ _ _ _ _ _ us hl => match us, hl with | [_, _], _ => rfl
  have F21 := fun_mk (st := s_law_mixed) l21 c21 k21
  have B21 := F21.binds (ps := P_law_mixed) fun _ _ _ _ _ _ us hl => match us, hl with | [_, _], _ => rfl
  have F22 := fun_mk (st := s_law_end) l22 c22 k22
  have B22 := F22.binds (ps := P_law_end) fun _ _ _ _ _ _ us hl => match us, hl with | [_, _], _ => rfl
  have F23 := fun_mk (st := s_law_rounds) l23 c23 k23
  have B23 := F23.binds (ps := P_law_rounds) fun _ _ _ _ _ _ us hl => match us, hl with | [_, _, _], _ => rfl
  have F24 := fun_mk (st := s_law_begins) l24 c24 k24
  have B24 := F24.binds (ps := P_law_begins) fun _ _ _ _ _ _ us hl => match us, hl with | [_, _, _, _], _ => rfl
  have F25 := fun_mk (st := s_law_far_lot) l25 c25 k25
  have B25 := F25.binds (ps := P_law_far_lot) fun _ _ _ _ _ _ us hl => match us, hl with | [_, _], _ => rfl
  have F26 := fun_mk (st := s_law_right) l26 c26 k26
  have B26 := F26.binds (ps := P_law_right) fun _ _ _ _ _ _ us hl => match us, hl with | [_, _, _], _ => rfl
  have F27 := fun_mk (st := s_law) l27 c27 k27
  have B27 := F27.binds (ps := P_law) fun _ _ _ _ _ _ us hl => match us, hl with | [_], _ => rfl
  let T : Tx K mg := {
    a_is_integer := _, d_is_integer := _, p_is_integer := ⟨F0, B0, PySem.W.mg_of X G a0⟩,
    a_is_between := _, d_is_between := _, p_is_between := ⟨F1, B1, PySem.W.mg_of X G a1⟩,
    a_is_list := _, d_is_list := _, p_is_list := ⟨F2, B2, PySem.W.mg_of X G a2⟩,
    a_is_mark := _, d_is_mark := _, p_is_mark := ⟨F3, B3, PySem.W.mg_of X G a3⟩,
    a_is_record := _, d_is_record := _, p_is_record := ⟨F4, B4, PySem.W.mg_of X G a4⟩,
    a_is_new_index := _, d_is_new_index := _, p_is_new_index := ⟨F5, B5, PySem.W.mg_of X G a5⟩,
    a_check_marks := _, d_check_marks := _, p_check_marks := ⟨F6, B6, PySem.W.mg_of X G a6⟩,
    a_check_ring := _, d_check_ring := _, p_check_ring := ⟨F7, B7, PySem.W.mg_of X G a7⟩,
    a_check_mark := _, d_check_mark := _, p_check_mark := ⟨F8, B8, PySem.W.mg_of X G a8⟩,
    a_check_integer := _, d_check_integer := _, p_check_integer := ⟨F9, B9, PySem.W.mg_of X G a9⟩,
    a_check_trip := _, d_check_trip := _, p_check_trip := ⟨F10, B10, PySem.W.mg_of X G a10⟩,
    a_check_lap := _, d_check_lap := _, p_check_lap := ⟨F11, B11, PySem.W.mg_of X G a11⟩,
    a_end_of := _, d_end_of := _, p_end_of := ⟨F12, B12, PySem.W.mg_of X G a12⟩,
    a_moved := _, d_moved := _, p_moved := ⟨F13, B13, PySem.W.mg_of X G a13⟩,
    a_wait_between := _, d_wait_between := _, p_wait_between := ⟨F14, B14, PySem.W.mg_of X G a14⟩,
    a_lap_waits := _, d_lap_waits := _, p_lap_waits := ⟨F15, B15, PySem.W.mg_of X G a15⟩,
    a_lap_rounds := _, d_lap_rounds := _, p_lap_rounds := ⟨F16, B16, PySem.W.mg_of X G a16⟩,
    a_trip_begins := _, d_trip_begins := _, p_trip_begins := ⟨F17, B17, PySem.W.mg_of X G a17⟩,
    a_trip_ticks := _, d_trip_ticks := _, p_trip_ticks := ⟨F18, B18, PySem.W.mg_of X G a18⟩,
    a_law_source := _, d_law_source := _, p_law_source := ⟨F19, B19, PySem.W.mg_of X G a19⟩,
    a_law_draw := _, d_law_draw := _, p_law_draw := ⟨F20, B20, PySem.W.mg_of X G a20⟩,
    a_law_mixed := _, d_law_mixed := _, p_law_mixed := ⟨F21, B21, PySem.W.mg_of X G a21⟩,
    a_law_end := _, d_law_end := _, p_law_end := ⟨F22, B22, PySem.W.mg_of X G a22⟩,
    a_law_rounds := _, d_law_rounds := _, p_law_rounds := ⟨F23, B23, PySem.W.mg_of X G a23⟩,
    a_law_begins := _, d_law_begins := _, p_law_begins := ⟨F24, B24, PySem.W.mg_of X G a24⟩,
    a_law_far_lot := _, d_law_far_lot := _, p_law_far_lot := ⟨F25, B25, PySem.W.mg_of X G a25⟩,
    a_law_right := _, d_law_right := _, p_law_right := ⟨F26, B26, PySem.W.mg_of X G a26⟩,
    a_law := _, d_law := _, p_law := ⟨F27, B27, PySem.W.mg_of X G a27⟩,
    n_abs := PySem.W.mg_none_of X G z_abs,
    n_bool := PySem.W.mg_none_of X G z_bool,
    n_enumerate := PySem.W.mg_none_of X G z_enumerate,
    n_int := PySem.W.mg_none_of X G z_int,
    n_isinstance := PySem.W.mg_none_of X G z_isinstance,
    n_len := PySem.W.mg_none_of X G z_len,
    n_list := PySem.W.mg_none_of X G z_list,
    n_max := PySem.W.mg_none_of X G z_max,
    n_min := PySem.W.mg_none_of X G z_min,
    n_range := PySem.W.mg_none_of X G z_range,
    n_sum := PySem.W.mg_none_of X G z_sum,
    n_tuple := PySem.W.mg_none_of X G z_tuple,
    n_type := PySem.W.mg_none_of X G z_type,
    n_zip := PySem.W.mg_none_of X G z_zip,
    t_MOST_LENGTH := _, c_MOST_LENGTH := w_MOST_LENGTH,
    t_MOST_MARKS := _, c_MOST_MARKS := w_MOST_MARKS,
    t_MOST_RECORDS := _, c_MOST_RECORDS := w_MOST_RECORDS }
  exact ⟨_, fun s v => .of_eq rfl, fun base _ _ => ok_law T⟩
theorem walk {l : PySem.W.OpenLaw} {q : Program} {loose : List Str} {XP : (Str → Option Value) → Heap → Prop} {YP : World → Heap → Prop} {d : DefRec} {K : Params → PySem.W.Frag} (hn : l.most = some 63) (hdf : d.params.defaults = [])
    (hY : ∀ (w : World) (h : Heap), YP w h → (K w.params).In h)
    (F : ∀ (w : World) (mg : Str → Option Value) (fa : Addr) (h : Heap), (K w.params).In h → h.Ns mainGlobals mg → mg d.name = some (.ref fa) →
      ∃ fd : FuncData, (∀ (s : Shared) (u : Value), BindsTo s fd ⟨[u], []⟩ [("script", u)]) ∧ ∀ base : Heap, (K w.params).In base → base.Ns mainGlobals mg → FnOk l.prog w (K w.params) mg base CX0 9 fa fd ["script"] (spLaw (K w.params))) :
    PySem.W.WalkO q loose XP YP l.row.toRowW d [] (fun f vs => PySem.call f vs) :=
  L2.walk_of (n := 63) (k := 9) (x := "script") (CX := fun _ => CX0) (sp := fun w => spLaw (K w.params)) hn (by decide) hdf ⟨rfl, by decide, by decide⟩ hY F (fun _ _ a ns hl _ hS => ⟨a, ns, rfl, hS, hl, fun _ => rfl⟩) fun _ _ _ _ _ z => z
end R9
open PySem PySem.W PyProof.Rows in
set_option maxRecDepth 100000 in
set_option maxHeartbeats 0 in
theorem PySem.Challenge.cw_ringreads_k09_far_orders_holds : PySem.Challenge.rw_ringreads_k09_far_orders.Holds := by
  w_on; o_law; k_head; (case hw => w_witness2)
  k_fill
  refine R9.walk (l := PySem.Challenge.rw_ringreads_k09_far_orders) rfl rfl (fun w h Y => PySem.W.kIn_of Y) ?F
  case F =>
    intro w mg fa h KX G hmg
    refine' R9.all_mk KX G hmg ?a0 ?l0 ?c0 ?k0 ?a1 ?l1 ?c1 ?k1 ?a2 ?l2 ?c2 ?k2 ?a3 ?l3 ?c3 ?k3 ?a4 ?l4 ?c4 ?k4 ?a5 ?l5 ?c5 ?k5 ?a6 ?l6 ?c6 ?k6 ?a7 ?l7 ?c7 ?k7 ?a8 ?l8 ?c8 ?k8 ?a9 ?l9 ?c9 ?k9 ?a10 ?l10 ?c10 ?k10 ?a11 ?l11 ?c11 ?k11 ?a12 ?l12 ?c12 ?k12 ?a13 ?l13 ?c13 ?k13 ?a14 ?l14 ?c14 ?k14 ?a15 ?l15 ?c15 ?k15 ?a16 ?l16 ?c16 ?k16 ?a17 ?l17 ?c17 ?k17 ?a18 ?l18 ?c18 ?k18 ?a19 ?l19 ?c19 ?k19 ?a20 ?l20 ?c20 ?k20 ?a21 ?l21 ?c21 ?k21 ?a22 ?l22 ?c22 ?k22 ?a23 ?l23 ?c23 ?k23 ?a24 ?l24 ?c24 ?k24 ?a25 ?l25 ?c25 ?k25 ?a26 ?l26 ?c26 ?k26 ?a27 ?l27 ?c27 ?k27 ?z_abs ?z_bool ?z_enumerate ?z_int ?z_isinstance ?z_len ?z_list ?z_max ?z_min ?z_range ?z_sum ?z_tuple ?z_type ?z_zip ?q_MOST_LENGTH ?q_MOST_MARKS ?q_MOST_RECORDS
    (case a0 => k_is)
    (case l0 => k_is)
    (case c0 => k_is)
    (case k0 => k_is)
    (case a1 => k_is)
    (case l1 => k_is)
    (case c1 => k_is)
    (case k1 => k_is)
    (case a2 => k_is)
    (case l2 => k_is)
    (case c2 => k_is)
    (case k2 => k_is)
    (case a3 => k_is)
    (case l3 => k_is)
    (case c3 => k_is)
    (case k3 => k_is)
    (case a4 => k_is)
    (case l4 => k_is)
    (case c4 => k_is)
    (case k4 => k_is)
    (case a5 => k_is)
    (case l5 => k_is)
    (case c5 => k_is)
    (case k5 => k_is)
    (case a6 => k_is)
    (case l6 => k_is)
    (case c6 => k_is)
    (case k6 => k_is)
    (case a7 => k_is)
    (case l7 => k_is)
    (case c7 => k_is)
    (case k7 => k_is)
    (case a8 => k_is)
    (case l8 => k_is)
    (case c8 => k_is)
    (case k8 => k_is)
    (case a9 => k_is)
    (case l9 => k_is)
    (case c9 => k_is)
    (case k9 => k_is)
    (case a10 => k_is)
    (case l10 => k_is)
    (case c10 => k_is)
    (case k10 => k_is)
    (case a11 => k_is)
    (case l11 => k_is)
    (case c11 => k_is)
    (case k11 => k_is)
    (case a12 => k_is)
    (case l12 => k_is)
    (case c12 => k_is)
    (case k12 => k_is)
    (case a13 => k_is)
    (case l13 => k_is)
    (case c13 => k_is)
    (case k13 => k_is)
    (case a14 => k_is)
    (case l14 => k_is)
    (case c14 => k_is)
    (case k14 => k_is)
    (case a15 => k_is)
    (case l15 => k_is)
    (case c15 => k_is)
    (case k15 => k_is)
    (case a16 => k_is)
    (case l16 => k_is)
    (case c16 => k_is)
    (case k16 => k_is)
    (case a17 => k_is)
    (case l17 => k_is)
    (case c17 => k_is)
    (case k17 => k_is)
    (case a18 => k_is)
    (case l18 => k_is)
    (case c18 => k_is)
    (case k18 => k_is)
    (case a19 => k_is)
    (case l19 => k_is)
    (case c19 => k_is)
    (case k19 => k_is)
    (case a20 => k_is)
    (case l20 => k_is)
    (case c20 => k_is)
    (case k20 => k_is)
    (case a21 => k_is)
    (case l21 => k_is)
    (case c21 => k_is)
    (case k21 => k_is)
    (case a22 => k_is)
    (case l22 => k_is)
    (case c22 => k_is)
    (case k22 => k_is)
    (case a23 => k_is)
    (case l23 => k_is)
    (case c23 => k_is)
    (case k23 => k_is)
    (case a24 => k_is)
    (case l24 => k_is)
    (case c24 => k_is)
    (case k24 => k_is)
    (case a25 => k_is)
    (case l25 => k_is)
    (case c25 => k_is)
    (case k25 => k_is)
    (case a26 => k_is)
    (case l26 => k_is)
    (case c26 => k_is)
    (case k26 => k_is)
    (case a27 => k_is)
    (case l27 => k_is)
    (case c27 => k_is)
    (case k27 => k_is)
    (case z_abs => k_is)
    (case z_bool => k_is)
    (case z_enumerate => k_is)
    (case z_int => k_is)
    (case z_isinstance => k_is)
    (case z_len => k_is)
    (case z_list => k_is)
    (case z_max => k_is)
    (case z_min => k_is)
    (case z_range => k_is)
    (case z_sum => k_is)
    (case z_tuple => k_is)
    (case z_type => k_is)
    (case z_zip => k_is)
    (case q_MOST_LENGTH => k_is)
    (case q_MOST_MARKS => k_is)
    (case q_MOST_RECORDS => k_is)
