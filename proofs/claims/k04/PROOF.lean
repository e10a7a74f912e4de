import PyProof.Rows.All
import Wide.All
import OpenK.AllK
import Wide.FinOn
import HandS.ForMost
import HandS.Wide
import HandS.IsInst
import HandS.More
import HandS.Conv
import HandS.Style
import HandS.Evl
import PyProof.TypeEq
import PyProof.FactsAll.object_2
import PyProof.ReprLen
import PyProof.ReprRoads
import KE.KTupSum
import PyProof.FitsInt
import PyProof.P3Eq
import HandS.Strs
import HandS.SetFor
import HandS.TryOnly
import HandS.ExcOwn
import HandS.WordsExc
import PyProof.CallFns
import PySem.Challenge.RW_ringreads_k04_records_moved_mirrored_mul
set_option Elab.async false
set_option linter.all false
set_option maxRecDepth 100000
set_option maxHeartbeats 4000000
namespace Rg
open PySem PySem.Spec PyProof.Rows L2
/-! ### rules that the layer lacks -/
/-- a power of a wide base, a small exponent -/
def CPowW (i j : Int) : Prop := 0 ≤ j ∧ j ≤ 1000 ∧ i.natAbs < 2 ^ 100000
theorem CPowW.ok {i j : Int} (h : CPowW i j) : (Builtin.Int.intBits i : Int) * j ≤ 2 ^ 27 := by
  obtain ⟨h0, h1, h2⟩ := h
  have hb : Builtin.Int.intBits i ≤ 100000 := intBits_le h2
  have h3 : (Builtin.Int.intBits i : Int) * j ≤ 100000 * j := Int.mul_le_mul_of_nonneg_right (by omega) h0
  omega
theorem op_powW {X : Cx} : OpR X (binaryOp .Pow) (rI CPowW fun i j => .int (i ^ j.toNat)) := opI fun _ _ _ _ _ _ _ hc q => pow_int hc.1 hc.ok q
section
variable {prog : Program} {w : World} {A : Around} {E : Value → Shared → Prop} {s : Shared} {Q : Value → Shared → Prop}
theorem slot_type_ne : Slot "type" (cmpInfo .NotEq).2.1 "object.__ne__" :=
  .of (owner := "object") (n := "__ne__") (by rw [typeLookup_type, builtinLookup_eq_fast]; kernel_rfl) (by decide +kernel) (by decide +kernel) (by decide +kernel)
    (by first | exact .inl (by decide +kernel) | exact .inr (by decide +kernel)) (by rw [isSubtype_type]; kernel_rfl)
theorem ne_type_same {T : String} (hX : ∀ s' : Shared, s'.TypeIs (.type T) "type") (hu : A.units < cLine) (h : Q (.bool false) s) : wpAny (model prog w) A (compareOp .NotEq (.type T) (.type T)) Q E s := by
  show wpAny _ A (richCompare .NotEq _ _) Q E s
  refine wpAny_richCompare_same (T := "type") (hX s) (hX s) slot_type_ne ?_
  refine wpAny_call (codeAny_call_builtin slot_type_ne.plain F.entry_object_ne (slot_type_ne.check _ _ _ _ _ _ _ _ (hX s) (F.args_object_ne_2 _ _) ?_))
  unfold Builtin.«object.__ne__»
  repeat (first
    | with_reducible refine wpAny_cRoomFor hu ?_
    | (refine wpAny_bind (m := callSpecialIfBound? (.type T) (Str.ofString "__eq__") [.type T])
        (wpAny_callSpecialIfBound?_slot (hX _) PySem.TypeEq.slot_type_eq (call_gives PySem.TypeEq.slot_type_eq (hX _) F.entry_object_eq (F.args_object_eq_2 _ _) (PySem.TypeEq.object_eq_same rfl (by simp)) ?_)))
    | wp_step)
  refine wpAny_bind (m := truthy (.bool true)) (wpAny_truthy_bool ?_)
  exact wpAny_pure ⟨(fun e => nomatch e), h⟩
end
theorem meta_lt {a : String} (h : a = "list" ∨ a = "tuple") (s' : Shared) : s'.TypeIs (.type a) "type" := by
  rcases h with rfl | rfl
  · exact PySem.TypeEq.meta_list s'
  · exact PySem.TypeEq.meta_tuple s'
section
variable {X : Cx}
/-- type(x) == T, both the same of list and tuple; != likewise -/
def rTyS (b : Bool) : R2 := fun x y H Q => ∃ a, (a = "list" ∨ a = "tuple") ∧ x = .ty a ∧ y = .ty a ∧ Q (.bl b) H
theorem op_eqTy : OpR X (compareOp .Eq) (rTyS true) := by
  intro pins s σ H x y v u Q I rx ry h
  obtain ⟨a, ha, rfl, rfl, q⟩ := h
  cases (show v = Value.type a from rx)
  cases (show u = Value.type a from ry)
  exact PySem.TypeEq.eq_type_same (meta_lt ha) ⟨.bl true, H, I, rfl, q⟩
theorem op_neTy (hu : X.A.units + 64 < cLine) : OpR X (compareOp .NotEq) (rTyS false) := by
  intro pins s σ H x y v u Q I rx ry h
  obtain ⟨a, ha, rfl, rfl, q⟩ := h
  cases (show v = Value.type a from rx)
  cases (show u = Value.type a from ry)
  exact ne_type_same (meta_lt ha) (by omega) ⟨.bl false, H, I, rfl, q⟩
/-- list + list, both read: a new list -/
def rCatR (K : PySem.W.Frag) : R2 := fun x y H Q => ∃ l b xs zs, x = .ref l ∧ y = .ref b ∧ SqL K H l xs ∧ SqL K H b zs ∧ xs.length + zs.length ≤ 100000 ∧ ∀ p, H p = none → Q (.ref p) (upd H p (.lst (xs ++ zs)))
theorem op_catR : OpR X (binaryOp .Add) (rCatR X.K) := by
  intro pins s σ H x y v u Q I rx ry h
  obtain ⟨l, b, xs, zs, rfl, rfl, hH, hB, hz0, q⟩ := h
  have hz : xs.length + zs.length ≤ sizeLine := Nat.le_trans hz0 (by decide)
  cases rx
  cases ry
  obtain ⟨its, r, e, _⟩ := I.list hH
  obtain ⟨its2, r2, e2, _⟩ := I.list hB
  have hl := r.length
  have hl2 := r2.length
  obtain ⟨o1, n1, g1, c1, d1, k1⟩ := e
  obtain ⟨o2, n2, g2, c2, d2, k2⟩ := e2
  obtain ⟨cc1, dd1, dt1, sl1⟩ := o1
  obtain ⟨cc2, dd2, dt2, sl2⟩ := o2
  simp only at c1 d1 k1 c2 d2 k2
  subst c1 d1 k1 c2 d2 k2
  refine concat_meets ⟨_, g1, rfl⟩ ⟨_, g2, rfl⟩ noFill_list_add seq_list_add PySem.F.slot_list_add PySem.F.entry_list_add (PySem.F.args_list_add_2 _ _) (PyProof.Rows.list_addW l b its.toArray its2.toArray n1 n2 none none sl1 sl2 (by rw [List.size_toArray, List.size_toArray]; omega)) ⟨g1, g2, ?_⟩
  have ea : its.toArray ++ its2.toArray = (its ++ its2).toArray := by simp
  rw [ea]
  exact ⟨.ref _, _, I.lnew (t' := s.toks) (r.append r2) (by rw [List.length_append]; omega), rfl, q _ I.fresh⟩
end
theorem hu64 {A : Around} {k : Nat} (hr : Room k A) : A.units + 64 < cLine := hr.units
/-! ### a def of the text, with its name and how it is bound -/
structure Df (K : PySem.W.Frag) (mg : Str → Option Value) (x : Str) (st : Stmt) (ps : List Str) (f : Addr) (fd : FuncData) : Prop where
  fn : Fun K x x st f fd
  b : Binds K fd ps []
  g : mg x = some (.ref f)
/-! ### what changes -/
/-- all that was tracked, but the object at a, is as it was -/
def Sx (a : Addr) (H H' : Hp) : Prop := ∀ b o, b ≠ a → H b = some o → H' b = some o
/-- the source: its parts, and at most N draws so far -/
def Src (a : Addr) (N : Nat) (H : Hp) : Prop := ∃ x y z : Int, H a = some (.lst [.int x, .int y, .int z]) ∧ 0 ≤ y ∧ y < 2 ^ 300 ∧ 0 ≤ z ∧ z ≤ N
theorem Sx.refl (a : Addr) (H : Hp) : Sx a H H := fun _ _ _ h => h
theorem Sx.trans {a : Addr} {H H1 H2 : Hp} (x : Sx a H H1) (y : Sx a H1 H2) : Sx a H H2 := fun b o n h => y b o n (x b o n h)
theorem Sx.of {a : Addr} {H H' : Hp} (x : Same H H') : Sx a H H' := fun b o _ h => x b o h
theorem Sx.set {a : Addr} {H H1 : Hp} {o : HO} (x : Sx a H H1) : Sx a H (upd H1 a o) := fun b u n h => by
  rw [upd_ne n]
  exact x b u n h
theorem Same.new {H : Hp} {p : Addr} {o : HO} (h : H p = none) : Same H (upd H p o) := fun b u e => by
  rw [upd_ne (ne_of_none e h)]
  exact e
theorem Src.le {a : Addr} {N M : Nat} {H : Hp} (h : Src a N H) (k : N ≤ M) : Src a M H := by
  obtain ⟨x, y, z, e, h1, h2, h3, h4⟩ := h
  exact ⟨x, y, z, e, h1, h2, h3, by omega⟩
theorem Src.same {a : Addr} {N : Nat} {H H' : Hp} (h : Src a N H) (k : Same H H') : Src a N H' := by
  obtain ⟨x, y, z, e, r⟩ := h
  exact ⟨x, y, z, k _ _ e, r⟩
theorem sqe {K : PySem.W.Frag} {H : Hp} {a : Addr} {xs : List V} (h : H a = some (.lst xs)) : SqL K H a xs := .inl (.inl h)
theorem ste {K : PySem.W.Frag} {H : Hp} {a : Addr} {xs : List V} (h : H a = some (.tup xs)) : SqT K H a xs := .inl (.inl h)
end Rg
namespace Rg
open PySem PySem.Spec PyProof.Rows L2
/-! ### readings, a step at a time -/
section
variable {K : PySem.W.Frag} {σ : L2.St} {H : Hp} {Q : VK} {D : Ends} {ta tb tc : TE} {t u : TT} {t1 t2 : TS} {v x y : V} {i : Nat} {r r' : R2} {G : L2.St → Hp → Prop} {QB : Bool → Hp → Prop} {nx : L2.St → Hp → Prop} {rt : VK} {bk ct : L2.St → Hp → Prop}
theorem r_seq (h : t1 ⟨t2 ⟨nx, rt, bk, ct⟩, rt, bk, ct⟩ σ H) : tSeq t1 t2 ⟨nx, rt, bk, ct⟩ σ H := h
theorem r_next (h : nx σ H) : tNext ⟨nx, rt, bk, ct⟩ σ H := h
theorem r_asg {g : TG} (h : ta σ H fun x H1 => g x σ H1 nx) : tAsg ta g ⟨nx, rt, bk, ct⟩ σ H := h
theorem r_name (h : G (σ.set i (some v)) H) : gName i v σ H G := h
theorem r_sub {to ti : TE} {s : TSet} (h : to σ H fun o H1 => ti σ H1 fun i H2 => s o i v H2 fun H3 => G σ H3) : gSub to ti s v σ H G := h
theorem r_drop (h : ta σ H fun _ H1 => nx σ H1) : tDrop ta ⟨nx, rt, bk, ct⟩ σ H := h
theorem r_ret (h : ta σ H rt) : tRet ta ⟨nx, rt, bk, ct⟩ σ H := h
theorem r_aug {ti : TIp} (hx : σ[i]? = some (some x)) (h : ta σ H fun y H1 => ti x y H1 fun z H2 => nx (σ.set i (some z)) H2) : tAug i ta ti ⟨nx, rt, bk, ct⟩ σ H := ⟨x, hx, h⟩
theorem r_ip {f : Int → Int → Int} {a b : Int} (h : Q (.int (f a b)) H) : ipI f (.int a) (.int b) H Q := ⟨a, b, rfl, rfl, h⟩
theorem r_par {j : Nat} {t : TA} (h : t σ H fun vs H1 => ∃ v w, vs = [v, w] ∧ nx ((σ.set i (some v)).set j (some w)) H1) : tPar i j t ⟨nx, rt, bk, ct⟩ σ H := h
theorem r_par2 {v w : V} {j : Nat} (h : G ((σ.set i (some v)).set j (some w)) H) : ∃ a b, [v, w] = [a, b] ∧ G ((σ.set i (some a)).set j (some b)) H := ⟨v, w, rfl, h⟩
theorem r_var (h : σ[i]? = some (some v)) (q : Q v H) : tVar i σ H Q := ⟨v, h, q⟩
theorem r_c (q : Q v H) : tC v σ H Q := q
theorem r_op (h : ta σ H fun x H1 => tb σ H1 fun y H2 => r x y H2 Q) : tOp r ta tb σ H Q := h
theorem r_un {r : V → Hp → VK → Prop} (h : ta σ H fun x H1 => r x H1 Q) : tUn r ta σ H Q := h
theorem r_rU {g : Int → V} {a : Int} (h : Q (g a) H) : rU g (.int a) H Q := ⟨a, rfl, h⟩
theorem r_I0 {g : Int → Int → V} {a b : Int} (h : Q (g a b) H) : rI0 g (.int a) (.int b) H Q := ⟨a, b, rfl, rfl, h⟩
theorem r_I {C : Int → Int → Prop} {g : Int → Int → V} {a b : Int} (c : C a b) (h : Q (g a b) H) : rI C g (.int a) (.int b) H Q := ⟨a, b, rfl, rfl, c, h⟩
theorem r_eq (h : scal x y = true) (q : Q (.bl (decide (x = y))) H) : rEq x y H Q := ⟨h, q⟩
theorem r_ne (h : scal x y = true) (q : Q (.bl (!decide (x = y))) H) : rNe x y H Q := ⟨h, q⟩
theorem r_eqI {a b : Int} (q : Q (.bl (decide (a = b))) H) : rEq (.int a) (.int b) H Q := ⟨rfl, by
  have e : decide (V.int a = V.int b) = decide (a = b) := by
    by_cases h : a = b
    · subst h; simp
    · rw [decide_eq_false h, decide_eq_false]; intro e; exact h (V.int.inj e)
  rw [e]; exact q⟩
theorem r_neI {a b : Int} (q : Q (.bl (!decide (a = b))) H) : rNe (.int a) (.int b) H Q := ⟨rfl, by
  have e : decide (V.int a = V.int b) = decide (a = b) := by
    by_cases h : a = b
    · subst h; simp
    · rw [decide_eq_false h, decide_eq_false]; intro e; exact h (V.int.inj e)
  rw [e]; exact q⟩
theorem r_tyS {b : Bool} {a : String} (h : a = "list" ∨ a = "tuple") (q : Q (.bl b) H) : rTyS b (.ty a) (.ty a) H Q := ⟨a, h, rfl, rfl, q⟩
theorem r_test (h : ta σ H fun x H' => ∃ k, x = .bl k ∧ QB k H') : tTest ta σ H QB := h
theorem r_B (h : ta σ H fun x H' => ∃ k, x = .bl k ∧ QB k H') : tB ta σ H QB := h
theorem r_bl {b : Bool} {F : Bool → Prop} (h : F b) : ∃ k, V.bl b = .bl k ∧ F k := ⟨b, rfl, h⟩
theorem r_not (h : t σ H fun c H1 => QB (!c) H1) : tNot t σ H QB := h
theorem r_and (h : t σ H fun c H1 => if c = true then u σ H1 QB else QB false H1) : tAnd t u σ H QB := h
theorem r_or (h : t σ H fun c H1 => if c = true then QB true H1 else u σ H1 QB) : tOr t u σ H QB := h
theorem r_andV (h : ta σ H fun x H1 => ∃ c, x = .bl c ∧ if c = true then tb σ H1 Q else Q (.bl false) H1) : tAndV ta tb σ H Q := h
theorem r_orV (h : ta σ H fun x H1 => ∃ c, x = .bl c ∧ if c = true then Q (.bl true) H1 else tb σ H1 Q) : tOrV ta tb σ H Q := h
theorem r_notV (h : ta σ H fun x H1 => ∃ c, x = .bl c ∧ Q (.bl (!c)) H1) : tNotV ta σ H Q := h
theorem r_if (h : t σ H fun b H1 => if b = true then t1 ⟨nx, rt, bk, ct⟩ σ H1 else t2 ⟨nx, rt, bk, ct⟩ σ H1) : tIfS t t1 t2 ⟨nx, rt, bk, ct⟩ σ H := h
theorem r_ifE (h : t σ H fun c H1 => if c = true then ta σ H1 Q else tb σ H1 Q) : tIf t ta tb σ H Q := h
theorem r_chain (h : ta σ H fun x H1 => tb σ H1 fun y H2 => r x y H2 fun z H3 => ∃ k, z = .bl k ∧ (if k = true then tc σ H3 fun w' H4 => r' y w' H4 Q else Q (.bl false) H3)) : tChain r r' ta tb tc σ H Q := h
theorem r_cb {r : List V → Hp → VK → Prop} {t : TA} (h : t σ H fun vs H1 => r vs H1 Q) : tCB r t σ H Q := h
theorem r_call {sp : Sp} {E : XK} {t : TA} (h : t σ H fun vs H1 => sp vs H1 Q E) : tCall sp [] E t σ H Q := by
  show t σ H fun vs H1 => sp (vs ++ []) H1 Q E
  have e : (fun (vs : List V) (H1 : Hp) => sp (vs ++ []) H1 Q E) = fun vs H1 => sp vs H1 Q E := by
    funext vs H1
    rw [List.append_nil]
  rw [e]
  exact h
theorem r_nil {F : List V → Hp → Prop} (h : F [] H) : tNil σ H F := h
theorem r_cons {t : TA} {F : List V → Hp → Prop} (h : ta σ H fun x H1 => t σ H1 fun xs H2 => F (x :: xs) H2) : tCons ta t σ H F := h
theorem r_ixL {p : Addr} {xs : List V} {k : Int} (hs : SqL K H p xs) (ha : atI xs k = some v) (q : Q v H) : rIxL K (.ref p) (.int k) H Q := ⟨p, xs, k, v, rfl, rfl, hs, ha, q⟩
theorem r_ixT {p : Addr} {xs : List V} {k : Int} (hs : SqT K H p xs) (ha : atI xs k = some v) (q : Q v H) : rIxT K (.ref p) (.int k) H Q := ⟨p, xs, k, v, rfl, rfl, hs, ha, q⟩
theorem r_setL {p : Addr} {xs : List V} {k : Int} {j : Nat} {QH : Hp → Prop} (hs : H p = some (.lst xs)) (ha : ixN xs.length k = some j) (q : QH (upd H p (.lst (xs.set j v)))) : rSetL (.ref p) (.int k) v H QH := ⟨p, xs, k, j, rfl, rfl, hs, ha, q⟩
theorem r_lst {t : TA} (h : t σ H fun xs H1 => xs.length ≤ sizeLine ∧ ∀ p, H1 p = none → Q (.ref p) (upd H1 p (.lst xs))) : tLst t σ H Q := h
theorem r_tup {t : TA} (h : t σ H fun xs H1 => xs.length ≤ sizeLine ∧ ∀ p, H1 p = none → Q (.ref p) (upd H1 p (.tup xs))) : tTup t σ H Q := h
theorem r_sl {r : V → Option Int → Option Int → Hp → VK → Prop} {tl th : TO} (h : ta σ H fun x H1 => tl σ H1 fun l H2 => th σ H2 fun u H3 => r x l u H3 Q) : tSl r ta tl th σ H Q := h
theorem r_noP {F : Option Int → Hp → Prop} (h : F none H) : tNoPart σ H F := h
theorem r_part {F : Option Int → Hp → Prop} (h : ta σ H fun x H1 => ∃ i, x = .int i ∧ F (some i) H1) : tPart ta σ H F := h
theorem r_int {a : Int} {F : Int → Prop} (h : F a) : ∃ i, V.int a = .int i ∧ F i := ⟨a, rfl, h⟩
theorem r_slL {p : Addr} {xs : List V} {lo hi : Option Int} (hs : SqL K H p xs) (q : ∀ d, H d = none → Q (.ref d) (upd H d (.lst (cutV xs lo hi)))) : rSlL K (.ref p) lo hi H Q := ⟨p, xs, rfl, hs, q⟩
theorem r_catR {p b : Addr} {xs zs : List V} (hs : SqL K H p xs) (hb : SqL K H b zs) (hz : xs.length + zs.length ≤ 100000) (q : ∀ d, H d = none → Q (.ref d) (upd H d (.lst (xs ++ zs)))) : rCatR K (.ref p) (.ref b) H Q := ⟨p, b, xs, zs, rfl, rfl, hs, hb, hz, q⟩
theorem r_gtup {n : Nat} {t : TGs} {a : Addr} {xs : List V} (hs : SqT K H a xs) (hn : xs.length = n) (h : t xs σ H G) : gTup K n t (.ref a) σ H G := ⟨a, xs, rfl, hs, hn, h⟩
theorem r_gcons {g : TG} {gs : TGs} {xs : List V} (h : g x σ H fun σ' H' => gs xs σ' H' G) : gCons g gs (x :: xs) σ H G := ⟨x, xs, rfl, h⟩
theorem r_gnil (h : G σ H) : gNil [] σ H G := ⟨rfl, h⟩
theorem r_app {l : Addr} {xs : List V} (hl : H l = some (.lst xs)) (hz : xs.length < 100000) (q : Q .non (upd H l (.lst (xs ++ [y])))) : rAppend (.ref l) [y] H Q := ⟨l, xs, y, rfl, rfl, hl, Nat.lt_of_lt_of_le hz (by decide), q⟩
theorem r_bm {T : String} {r : V → List V → Hp → VK → Prop} {to : TE} {t : TA} (h : to σ H fun x H1 => tyV K T x H1 ∧ t σ H1 fun xs H2 => r x xs H2 Q) : tBM K T r to t σ H Q := h
theorem r_sum {p : Addr} {ns : List Int} (hs : SqL K H p (ns.map V.int)) (q : Q (.int ns.sum) H) : rSum K [.ref p] H Q := ⟨p, ns, rfl, hs, q⟩
theorem iteF' {A B : Prop} {c : Bool} (hc : c = false) (h : B) : if c = true then A else B := by subst hc; exact iteF h
theorem iteT' {A B : Prop} {c : Bool} (hc : c = true) (h : A) : if c = true then A else B := by subst hc; exact iteT h
end
section
variable {X : Cx}
def rIntI : List V → Hp → VK → Prop := fun xs H Q => ∃ i, xs = [.int i] ∧ Q (.int i) H
def rIntB : List V → Hp → VK → Prop := fun xs H Q => ∃ k, xs = [.bl k] ∧ Q (.int (if k then 1 else 0)) H
theorem call_intI : CallR X (.type "int") rIntI := fun pins s σ H xs us Q I r h => call_int1 pins s σ H xs us Q I r (.inl h)
theorem call_intB : CallR X (.type "int") rIntB := fun pins s σ H xs us Q I r h => call_int1 pins s σ H xs us Q I r (.inr h)
theorem r_intI {a : Int} {H : Hp} {Q : VK} (q : Q (.int a) H) : rIntI [.int a] H Q := ⟨a, rfl, q⟩
theorem r_intB {a : Bool} {H : Hp} {Q : VK} (q : Q (.int (if a then 1 else 0)) H) : rIntB [.bl a] H Q := ⟨a, rfl, q⟩
end
section
variable {X : Cx}
def rLen2 (K : PySem.W.Frag) : List V → Hp → VK → Prop := fun xs H Q => ∃ p ys, xs = [.ref p] ∧ (SqL K H p ys ∨ SqT K H p ys) ∧ Q (.int ys.length) H
theorem call_len2 : CallR X (.builtin "len") (rLen2 X.K) := call_len_seq
def rAbs2 : List V → Hp → VK → Prop := fun xs H Q => ∃ i, xs = [.int i] ∧ Q (.int (if i < 0 then -i else i)) H
theorem call_abs2 : CallR X (.builtin "abs") rAbs2 := call_abs
def rMx2 : List V → Hp → VK → Prop := fun xs H Q => ∃ i j, xs = [.int i, .int j] ∧ Q (.int (if j > i then j else i)) H
theorem call_mx2 (hc : X.calm = true) : CallR X (.builtin "max") rMx2 := call_max2 hc
def rMn2 : List V → Hp → VK → Prop := fun xs H Q => ∃ i j, xs = [.int i, .int j] ∧ Q (.int (if j < i then j else i)) H
theorem call_mn2 (hc : X.calm = true) : CallR X (.builtin "min") rMn2 := call_min2 hc
def rLst2 (K : PySem.W.Frag) : List V → Hp → VK → Prop := fun xs H Q => ∃ p ys, xs = [.ref p] ∧ (SqL K H p ys ∨ SqT K H p ys) ∧ ∀ l, H l = none → Q (.ref l) (upd H l (.lst ys))
theorem call_lst2 : CallR X (.type "list") (rLst2 X.K) := call_list_of
end
section
variable {K : PySem.W.Frag} {H : Hp} {Q : VK}
theorem r_len2 {p : Addr} {xs : List V} (hs : SqL K H p xs ∨ SqT K H p xs) (q : Q (.int (xs.length : Int)) H) : rLen2 K [.ref p] H Q := ⟨p, xs, rfl, hs, q⟩
theorem r_abs2 {a : Int} (q : Q (.int (if a < 0 then -a else a)) H) : rAbs2 [.int a] H Q := ⟨a, rfl, q⟩
theorem r_mx2 {a b : Int} (q : Q (.int (if b > a then b else a)) H) : rMx2 [.int a, .int b] H Q := ⟨a, b, rfl, q⟩
theorem r_mn2 {a b : Int} (q : Q (.int (if b < a then b else a)) H) : rMn2 [.int a, .int b] H Q := ⟨a, b, rfl, q⟩
theorem r_lst2 {p : Addr} {xs : List V} (hs : SqL K H p xs ∨ SqT K H p xs) (q : ∀ l, H l = none → Q (.ref l) (upd H l (.lst xs))) : rLst2 K [.ref p] H Q := ⟨p, xs, rfl, hs, q⟩
end
/-- the items of a written list -/
theorem at0 {a : V} {r : List V} : atI (a :: r) 0 = some a := atI_nat (j := 0) rfl
theorem at1 {a b : V} {r : List V} : atI (a :: b :: r) 1 = some b := atI_nat (j := 1) rfl
theorem at2 {a b c : V} {r : List V} : atI (a :: b :: c :: r) 2 = some c := atI_nat (j := 2) rfl
end Rg
namespace Rg
open PySem PySem.Spec PyProof.Rows L2
section
variable {K : PySem.W.Frag} {J : It} {g : TG} {tb : TS} {te : TE} {σ : L2.St} {H : Hp} {nx : L2.St → Hp → Prop} {rt : VK} {bk ct : L2.St → Hp → Prop}
theorem r_for {wi : TI} (h : wi σ H fun J H1 => ∃ W : Nat → Nat → L2.St → Hp → Prop, (∃ m, W 0 m σ H1) ∧ ∀ i m σ H, W i m σ H →
    (J.stop i H ∧ nx σ H) ∨ (J.go i H ∧ ∃ N : L2.St → Hp → Prop, (∀ σ' H', N σ' H' → ∃ m', m' < m ∧ W (i + 1) m' σ' H') ∧ ∀ x H', J.yld i H x H' → g x σ H' fun σ2 H2 => tb ⟨N, rt, nx, N⟩ σ2 H2)) : tFor wi g tb ⟨nx, rt, bk, ct⟩ σ H := h
theorem for_gen (n : Nat) (Pv : Nat → L2.St → Hp → Prop) (h0 : Pv 0 σ H) (hstop : ∀ σ H, Pv n σ H → J.stop n H) (hgo : ∀ i σ H, i < n → Pv i σ H → J.go i H)
    (hstep : ∀ i σ H x H', i < n → Pv i σ H → J.yld i H x H' → g x σ H' fun σ2 H2 => tb ⟨Pv (i + 1), rt, nx, Pv (i + 1)⟩ σ2 H2) (hdone : ∀ σ H, Pv n σ H → nx σ H) :
    ∃ W : Nat → Nat → L2.St → Hp → Prop, (∃ m, W 0 m σ H) ∧ ∀ i m σ H, W i m σ H →
    (J.stop i H ∧ nx σ H) ∨ (J.go i H ∧ ∃ N : L2.St → Hp → Prop, (∀ σ' H', N σ' H' → ∃ m', m' < m ∧ W (i + 1) m' σ' H') ∧ ∀ x H', J.yld i H x H' → g x σ H' fun σ2 H2 => tb ⟨N, rt, nx, N⟩ σ2 H2) := by
  refine ⟨fun i m s h => i + m = n ∧ Pv i s h, ⟨n, Nat.zero_add n, h0⟩, fun i m s h hw => ?_⟩
  obtain ⟨em, p⟩ := hw
  cases m with
  | zero =>
    have ei : i = n := by omega
    subst ei
    exact .inl ⟨hstop s h p, hdone s h p⟩
  | succ m => exact .inr ⟨hgo i s h (by omega) p, Pv (i + 1), fun s' h' q => ⟨m, Nat.lt_succ_self m, by omega, q⟩, fun x h' y => hstep i s h x h' (by omega) p y⟩
theorem r_lc {wi : TI} {vs : List Nat} {Q : VK} (h : wi σ H fun J H1 => ∀ D, H1 D = none → ∃ W : Nat → Nat → Hp → Prop, (∃ m, W 0 m (upd H1 D (.lst []))) ∧ ∀ i m H, W i m H →
    (J.stop i H ∧ Q (.ref D) H) ∨ (J.go i H ∧ ∃ Nx : Hp → Prop, (∀ H', Nx H' → ∃ m', m' < m ∧ W (i + 1) m' H') ∧ ∀ x H', J.yld i H x H' → g x (wipe σ vs) H' fun σ2 H2 => wipe σ2 vs = wipe σ vs ∧ tYes σ2 H2 fun b H3 =>
      if b = true then te σ2 H3 fun y H4 => ∃ acc, H4 D = some (.lst acc) ∧ acc.length < sizeLine ∧ Nx (upd H4 D (.lst (acc ++ [y]))) else Nx H3)) : tLc wi g tYes te vs σ H Q := h
/-- a comprehension: the word I of the turn and the heap, F of what each turn gives; both stand when the list at D grows -/
theorem lc_gen {D : Addr} {vs : List Nat} {Qd : Hp → Prop} (n : Nat) (hn : n ≤ 1000) (I : Nat → Hp → Prop) (F : Nat → V → Hp → Prop) (hD : H D = none) (h0 : I 0 (upd H D (.lst [])))
    (keep : ∀ i h acc acc', h D = some (.lst acc) → I i h → I i (upd h D (.lst acc'))) (hstop : ∀ h, I n h → J.stop n h) (hgo : ∀ i h, i < n → I i h → J.go i h)
    (hstep : ∀ i h x h' acc (Q : VK), i < n → I i h → h D = some (.lst acc) → J.yld i h x h' →
      (∀ y h4, I (i + 1) h4 → h4 D = some (.lst acc) → (∀ j z, j < i → F j z h → F j z h4) → F i y h4 → Q y h4) → g x (wipe σ vs) h' fun σ2 H2 => wipe σ2 vs = wipe σ vs ∧ te σ2 H2 Q)
    (keepF : ∀ i y h acc acc', h D = some (.lst acc) → F i y h → F i y (upd h D (.lst acc')))
    (hdone : ∀ h acc, I n h → h D = some (.lst acc) → acc.length = n → (∀ j z, acc[j]? = some z → F j z h) → Qd h) :
    ∃ W : Nat → Nat → Hp → Prop, (∃ m, W 0 m (upd H D (.lst []))) ∧ ∀ i m H, W i m H →
    (J.stop i H ∧ Qd H) ∨ (J.go i H ∧ ∃ Nx : Hp → Prop, (∀ H', Nx H' → ∃ m', m' < m ∧ W (i + 1) m' H') ∧ ∀ x H', J.yld i H x H' → g x (wipe σ vs) H' fun σ2 H2 => wipe σ2 vs = wipe σ vs ∧ tYes σ2 H2 fun b H3 =>
      if b = true then te σ2 H3 fun y H4 => ∃ acc, H4 D = some (.lst acc) ∧ acc.length < sizeLine ∧ Nx (upd H4 D (.lst (acc ++ [y]))) else Nx H3) := by
  refine ⟨fun i m h => i + m = n ∧ I i h ∧ ∃ acc : List V, h D = some (.lst acc) ∧ acc.length = i ∧ ∀ j z, acc[j]? = some z → F j z h, ⟨n, Nat.zero_add n, h0, [], upd_same, rfl, fun j z e => by simp at e⟩, fun i m h hw => ?_⟩
  obtain ⟨em, p, acc, ha, hl, hF⟩ := hw
  cases m with
  | zero =>
    have ei : i = n := by omega
    subst ei
    exact .inl ⟨hstop h p, hdone h acc p ha hl hF⟩
  | succ m =>
    refine .inr ⟨hgo i h (by omega) p, fun h' => i + 1 + m = n ∧ I (i + 1) h' ∧ ∃ acc : List V, h' D = some (.lst acc) ∧ acc.length = i + 1 ∧ ∀ j z, acc[j]? = some z → F j z h', fun h' q => ⟨m, Nat.lt_succ_self m, q⟩, fun x h' y => ?_⟩
    refine hstep i h x h' acc _ (by omega) p ha y fun z h4 i4 a4 k4 f4 => ⟨acc, a4, Nat.lt_of_lt_of_le (show acc.length < 2000 by omega) (by decide), by omega, keep _ _ _ _ a4 i4, _, upd_same, by rw [List.length_append, hl]; rfl, fun j w e => ?_⟩
    refine keepF _ _ _ _ _ a4 ?_
    by_cases hj : j < acc.length
    · rw [List.getElem?_append_left hj] at e
      exact k4 j w (by omega) (hF j w e)
    · have hj2 : j < (acc ++ [z]).length := (List.getElem?_eq_some_iff.mp e).1
      rw [List.length_append, List.length_singleton] at hj2
      have ej : j = acc.length := by omega
      subst ej
      rw [List.getElem?_append_right (Nat.le_refl _), Nat.sub_self] at e
      have ew : z = w := Option.some.inj e
      subst ew
      rw [hl]
      exact f4
theorem r_ilist {tl : TE} {R : It → Hp → Prop} (h : tl σ H fun x H1 => ∃ a, x = .ref a ∧ (∃ xs, SqL K H1 a xs) ∧ R (Itl K a) H1) : iList K tl σ H R := h
theorem r_il2 {a : Addr} {xs : List V} {F : Addr → Prop} (hx : SqL K H a xs) (q : F a) : ∃ b, V.ref a = .ref b ∧ (∃ xs, SqL K H b xs) ∧ F b := ⟨a, rfl, ⟨xs, hx⟩, q⟩
theorem r_ienum {ta : TA} {R : It → Hp → Prop} (h : ta σ H fun vs H1 => ∃ a xs, vs = [.ref a] ∧ SqL K H1 a xs ∧ R (Ite K a) H1) : iEnum K ta σ H R := h
theorem r_izip {ta : TA} {R : It → Hp → Prop} (h : ta σ H fun vs H1 => ∃ a b xs ys, vs = [.ref a, .ref b] ∧ SqL K H1 a xs ∧ SqL K H1 b ys ∧ R (Itz K a b) H1) : iZip K ta σ H R := h
theorem r_irng1 {ta : TA} {R : It → Hp → Prop} (h : ta σ H fun vs H1 => ∃ j : Int, vs = [.int j] ∧ -(2 ^ 62) ≤ j ∧ j < 2 ^ 62 ∧ R (Itr 0 j.toNat) H1) : iRng1 ta σ H R := h
theorem r_irng2 {ta : TA} {R : It → Hp → Prop} (h : ta σ H fun vs H1 => ∃ i j : Int, vs = [.int i, .int j] ∧ (-(2 ^ 62) ≤ i ∧ i < 2 ^ 62 ∧ -(2 ^ 62) ≤ j ∧ j < 2 ^ 62) ∧ R (Itr i (j - i).toNat) H1) : iRng2 ta σ H R := h
theorem get_of {xs : List V} {i : Nat} (h : i < xs.length) : ∃ x, xs[i]? = some x := ⟨_, List.getElem?_eq_getElem h⟩
theorem go_list {a : Addr} {xs : List V} {i : Nat} (h : SqL K H a xs) (hi : i < xs.length) : (Itl K a).go i H := by
  obtain ⟨x, hx⟩ := get_of hi
  exact ⟨xs, x, h, hx⟩
theorem go_enum {a : Addr} {xs : List V} {i : Nat} (h : SqL K H a xs) (hi : i < xs.length) : (Ite K a).go i H := by
  obtain ⟨x, hx⟩ := get_of hi
  exact ⟨xs, x, h, hx⟩
theorem go_zip {a b : Addr} {xs ys : List V} {i : Nat} (h : SqL K H a xs) (h' : SqL K H b ys) (hi : i < xs.length) (hj : i < ys.length) : (Itz K a b).go i H := by
  obtain ⟨x, hx⟩ := get_of hi
  obtain ⟨y, hy⟩ := get_of hj
  exact ⟨xs, ys, x, y, h, h', hx, hy⟩
end
section
variable {X : Cx}
theorem pg_tupK {es : List Expr} {k : Nat} {pos : Pos} {t : TGs} {n : Nat} {K : PySem.W.Frag} (hK : X.K = K) (hc : X.calm = true) (h : PGs X es t)
    (hn : (assignEach es X.env).length = n := by rfl) (hst : (assignEach es X.env).findIdx? (·.1) = none := by rfl) : PG X (.Tuple es k pos) (gTup K n t) := by
  subst hK
  exact pg_tup hc h hn hst
end
theorem same_keep {H h : Hp} {D : Addr} {o : HO} (hD : H D = none) (k : Same H h) : Same H (upd h D o) := fun b u e => by
  rw [upd_ne (ne_of_none e hD)]
  exact k b u e
end Rg
namespace Rg
open PySem PySem.Spec PyProof.Rows L2
/-! ### defs that are called where no repr is under way -/
section
variable (P : Program) (w : World) (K : PySem.W.Frag) (mg : Str → Option Value) (base : Heap) (C : CXT)
/-- a promise of a def that is called where no repr is under way -/
structure FnG (k : Nat) (f : Addr) (fd : FuncData) (ps : List Str) (sp : Sp) : Prop where
  ln : ∀ {vs H Q E}, sp vs H Q E → vs.length = ps.length
  go : ∀ {A : Around} {o : List Env} {s : Shared} {H : Hp} {ar : Args} {us : List Value} {vs : List V} {Q : VK} {E : XK}, A.guards = some [] → Room k A → Env0 P w K mg base A o s H → BindsTo s fd ar (ps.zip us) → Vals vs us → sp vs H Q E → codeAny (model P w) A (.call (.ref f) ar) (CR C o P w H s Q E) s
end
section
variable {P : Program} {w : World} {K : PySem.W.Frag} {mg : Str → Option Value} {base : Heap} {C : CXT} {k : Nat} {f : Addr} {fd : FuncData} {ps : List Str} {sp : Sp}
theorem FnG.of (F : FnOk P w K mg base C k f fd ps sp) : FnG P w K mg base C k f fd ps sp := ⟨F.len _ _ _ _, fun _ r e b v h => F.run _ _ _ _ _ _ _ _ _ r e b v h⟩
/-- a def by its body, where no repr is under way -/
theorem fnG_of {x qual : Str} {st : Stmt} {N : List Str} (F : Fun K x qual st f fd) (S : FnScope N ps (defScope st)) (ln : ∀ vs H Q E, sp vs H Q E → vs.length = ps.length)
    (body : ∀ (cd : Value) (A : Around) (o : List Env) (s : Shared) (H : Hp) (vs : List V) (Q : VK) (E : XK), A.guards = some [] → Room k (A.deeper (envOfC qual (defScope st) s.heap.objs.size f cd)) → sp vs H Q E →
      ∃ t, PSs (cxOf CX0 P w K mg base N qual (defScope st) f cd A o s H E).nox (defBody st) t ∧ t { nx := fun _ H' => Q .non H', rt := Q } (start N vs) H) : FnG P w K mg base CX0 (k + 1) f fd ps sp := by
  obtain ⟨oc, od, kV, doc, pm, an, cdv, ct, osl, rfl, lk, hcd⟩ := F.ex
  refine ⟨ln _ _ _ _, fun {A o s H ar us vs Q E} hg hr e0 hb rv hsp => ?_⟩
  have kin : K.In s.heap := e0.mod.kin.keeps fun b u e => (e0.bs b u e).1
  refine codeAny_call_function hr.depth (kin _ _ lk) rfl S.co S.gen rfl (PySem.W.codeRec_of kin hcd) (hb _ _ _ _ ?_)
  refine wpAny_newFunctionEnv_cells S.kind (fun y hy => ?_) fun env he s1 ic => ?_
  · have hm := (List.of_mem_zip (a := y.1) (b := y.2) hy).1
    exact (S.par y.1 hm).imp id fun z => ⟨z, PySem.W.cellsFrom_some _ _ _ (.inl z)⟩
  · subst he
    obtain ⟨t, ht, hq⟩ := body cdv A o s H vs Q E hg (hr.deeper _) hsp
    have I0 : Inv (cxOf CX0 P w K mg base N qual (defScope st) f cdv A o s H E) [] (start N vs) H s1 := inv_start S hr.hd e0 (ln _ _ _ _ hsp) rv ic
    refine ⟨(e0.mod.nolimit.keeps fun b u e => (e0.bs b u e).1).keeps ic.toInCall.keep, codeAny_func (wpAny_mono (ht.nox.run [] s1 (start N vs) H _ I0 hq) (fun r s' hs => ?_) fun _ _ z => z)⟩
    cases r with
    | ret u => exact let ⟨v, _, H', J, r1, q1⟩ := hs; ⟨v, H', J.os, J.bare, J.base, J.hok, r1, q1⟩
    | next => exact let ⟨_, H', J, q1⟩ := hs; ⟨V.non, H', J.os, J.bare, J.base, J.hok, rfl, q1⟩
    | brk => exact let ⟨_, _, _, z⟩ := hs; False.elim z
    | cont => exact let ⟨_, _, _, z⟩ := hs; False.elim z
end
section
variable {X : Cx} {C : CXT} {k : Nat} {f : Addr} {fd : FuncData} {ps ks : List Str} {sp : Sp} {E : XK} {x : Str} {p pos : Pos} {e : Expr} {es : List Expr} {kws : List Keyword} {t : TA}
/-- the call of such a def -/
theorem runG {pins : List (Addr × Obj)} {σ : L2.St} {H : Hp} {s : Shared} {Q : VK} {us : List Value} {kw : List (Str × Value)} {bs : List Value} {vs : List V} (F : FnG X.prog X.w X.K X.mg X.base C k f fd ps sp) (hg : X.A.guards = some []) (hr : Room k X.A) (hx : Passes C X E)
    (I : Inv X pins σ H s) (b : BindsTo s fd ⟨us, kw⟩ (ps.zip bs)) (rv : Vals vs bs) (h : sp vs H Q E) : wpAny (model X.prog X.w) X.A (call (.ref f) us kw) (EP X pins σ Q) X.xe s := by
  refine wpAny_call (codeAny_mono (F.go hg hr I.env0 b rv h) fun r s' hq => ?_)
  match r, hq with
  | .error e, hq => exact hx pins σ H s e s' I hq
  | .ok (.ret u), hq => exact I.after hq
  | .ok .next, hq => exact hq.elim
  | .ok .brk, hq => exact hq.elim
  | .ok .cont, hq => exact hq.elim
theorem pe_callG (F : FnG X.prog X.w X.K X.mg X.base C k f fd ps sp) (hg : X.A.guards = some []) (hr : Room k X.A) (gl : Gl X x) (hm : X.mg x = some (.ref f)) (hk : PySem.W.keepIn X.K (.ref f) = true) (hb : Binds X.K fd ps []) (hx : Passes C X E) (ha : PA X (e :: es) t)
    (hd : (x == ("__debug__" : Str)) = false := by decide) (he : starEach (e :: es) X.env = (false, eval e X.env) :: starEach es X.env := by rfl) (hp : (backTo pos (starEach es X.env)).any (·.1) = false := by rfl) : PE X (.Call (.Name x p) (e :: es) [] pos) (tCall sp [] E t) := by
  constructor
  intro pins s σ H Q I h
  refine wpAny_Call_Name_kw (ld_glob I gl hm (PySem.W.callWith_K (h₀ := X.base) I.ok.mod.kin hk (thn (ha.run pos pins s σ H _ I h) fun us s1 z => ?_) he hp) hd)
  obtain ⟨vs, H1, I1, r, q⟩ := z
  have q' : sp vs H1 Q E := (List.append_nil vs) ▸ q
  have b := hb s1 us I1.kIn (by rw [List.append_nil, ← r.length]; exact F.ln q')
  rw [List.append_nil] at b
  exact ⟨I1.kIn, runG F hg hr hx I1 b r q'⟩
/-- f(k = v, ..): the keywords in any order; gV puts their values in the parameters' order -/
structure KwB (K : PySem.W.Frag) (fd : FuncData) (ps ks : List Str) (g : List Value → List Value) (gV : List V → List V) : Prop where
  to : ∀ (s : Shared) (ws : List Value), K.In s.heap → (g ws).length = ps.length → BindsTo s fd ⟨[], ks.zip ws⟩ (ps.zip (g ws))
  rl : ∀ {zs : List V} {ws : List Value}, Vals zs ws → Vals (gV zs) (g ws)
def tKw (sp : Sp) (gV : List V → List V) (E : XK) (t : TA) : TE := fun σ H Q => t σ H fun zs H1 => sp (gV zs) H1 Q E
theorem pe_kw {g : List Value → List Value} {gV : List V → List V} (F : FnOk X.prog X.w X.K X.mg X.base C k f fd ps sp) (hr : Room k X.A) (gl : Gl X x) (hm : X.mg x = some (.ref f)) (hk : PySem.W.keepIn X.K (.ref f) = true) (hb : KwB X.K fd ps ks g gV) (hx : Passes C X E) (hw : PK X kws t)
    (hall : (backToKw pos (keywordEach kws X.env)).all (·.1.isSome) = true := by rfl) (hks : (backToKw pos (keywordEach kws X.env)).filterMap (·.1) = ks := by rfl) (hd : (x == ("__debug__" : Str)) = false := by decide)
    (hp : ((backTo pos (starEach [] X.env)).any (·.1) || (backToKw pos (keywordEach kws X.env)).any (·.1.isNone)) = false := by rfl) : PE X (.Call (.Name x p) [] kws pos) (tKw sp gV E t) := by
  constructor
  intro pins s σ H Q I h
  refine wpAny_Call_Name_kw (ld_glob I gl hm (PySem.W.callWith_KW0 (h₀ := X.base) I.ok.mod.kin hk hall (thn (hw.run pos pins s σ H _ I h) fun ws s1 z => ?_) hp) hd)
  obtain ⟨zs, H1, I1, r, q⟩ := z
  have r2 := hb.rl r
  refine ⟨I1.kIn, ?_⟩
  rw [hks]
  refine wpAny_call (codeAny_mono (F.run _ _ _ _ _ _ _ Q E hr I1.env0 (hb.to s1 ws I1.kIn (by rw [← r2.length]; exact F.len _ _ _ _ q)) r2 q) fun r s' hq => ?_)
  match r, hq with
  | .error e, hq => exact hx pins σ H1 s1 e s' I1 hq
  | .ok (.ret u), hq => exact I1.after hq
  | .ok .next, hq => exact hq.elim
  | .ok .brk, hq => exact hq.elim
  | .ok .cont, hq => exact hq.elim
/-! ### repr of lists and tuples, where no repr is under way -/
/-- data that repr shows: no dict, ints below 1,900 bits, texts of signs, few nodes -/
def reprD (d : PyData) : Prop := d.showable = true ∧ d.hasDict = false ∧ d.leavesShort 150 = true ∧ d.depth ≤ 20 ∧ d.weight ≤ 100000
def rRepr (K : PySem.W.Frag) : List V → Hp → VK → Prop := fun xs H Q => ∃ (a : Addr) (d : PyData), xs = [.ref a] ∧ Dp K H (.ref a) d ∧ reprD d ∧ Q (.str d.shown) H
theorem call_repr (hg : X.A.guards = some []) (hu : X.A.units + 64 < cLine) : CallR X (.builtin "repr") (rRepr X.K) := by
  intro pins s σ H xs us Q I r h
  obtain ⟨a, d, rfl, hd, ⟨d1, d2, d3, d4, d5⟩, q⟩ := h
  cases r with
  | cons r1 r2 =>
    cases r2
    cases r1
    obtain ⟨as, rd⟩ := Dp.reads I d _ _ hd (show RelV (.ref a) (.ref a) from rfl)
    refine repr_of_reads' rd d1 (PyData.noDict_hsm d2) hg (by omega) (fun _ _ z => z) (fun h' u tk hk => ⟨.str d.shown, H, I.kept hk, ⟨u, rfl⟩, q⟩) ?_
    have z := PyData.shown_le 150 (by decide) d d3
    have e : (150 + 2) * d.weight ≤ 152 * 100000 := Nat.mul_le_mul (by decide) d5
    show _ ≤ 2 ^ 24
    omega
/-- sum of a tuple of ints -/
def rSumT (K : PySem.W.Frag) : List V → Hp → VK → Prop := fun xs H Q => ∃ (a : Addr) (ns : List Int), xs = [.ref a] ∧ SqT K H a (ns.map V.int) ∧ Q (.int ns.sum) H
theorem call_sumT (hc : X.calm = true) : CallR X (.builtin "sum") (rSumT X.K) := by
  intro pins s σ H xs us Q I r h
  obtain ⟨a, ns, rfl, hs, q⟩ := h
  cases r with
  | cons r1 r2 =>
    cases r2
    cases r1
    obtain ⟨its, rv, ht, _⟩ := I.tuple hs
    have hi : IntsAre its ns := rv.ints
    obtain ⟨ys, hy⟩ := hi.allInts.items
    have hn : numsOf its.toArray.toList = ns := hi.numsOf
    rw [hy, nums_intItems] at hn
    rw [hy] at ht
    refine PySem.W.ktm_sumG (I.ok.hd hc) ht fun h' tk t' hk => ?_
    rw [preSum_eq, List.take_of_length_le (by simp), hn]
    exact ⟨.int ns.sum, H, I.kept hk, ⟨t', rfl⟩, q⟩
end
section
variable {K : PySem.W.Frag} {σ : L2.St} {H : Hp} {Q : VK}
theorem r_kw {sp : Sp} {gV : List V → List V} {E : XK} {t : TA} (h : t σ H fun zs H1 => sp (gV zs) H1 Q E) : tKw sp gV E t σ H Q := h
theorem r_sumT {a : Addr} {ns : List Int} (hs : SqT K H a (ns.map V.int)) (q : Q (.int ns.sum) H) : rSumT K [.ref a] H Q := ⟨a, ns, rfl, hs, q⟩
theorem r_repr {a : Addr} {d : PyData} (hd : Dp K H (.ref a) d) (hr : reprD d) (q : Q (.str d.shown) H) : rRepr K [.ref a] H Q := ⟨a, d, rfl, hd, hr, q⟩
theorem r_neS {x y : Str} (q : Q (.bl (!decide (x = y))) H) : rNe (.str x) (.str y) H Q := ⟨rfl, by
  have e : decide (V.str x = V.str y) = decide (x = y) := by
    by_cases h : x = y
    · subst h
      simp
    · rw [decide_eq_false h, decide_eq_false]
      intro e
      exact h (V.str.inj e)
  rw [e]
  exact q⟩
end
/-- the values by a list of places -/
def prm {α : Type} (js : List Nat) (l : List α) : List α := if l.length = js.length then js.filterMap (l[·]?) else []
theorem prm_len {α : Type} {js : List Nat} {l : List α} {n : Nat} (h : (prm js l).length = n) (h0 : 0 < n) : l.length = js.length := by
  unfold prm at h
  split at h
  · assumption
  · simp at h
    omega
theorem prm_rl {js : List Nat} {zs : List V} {ws : List Value} (h : Vals zs ws) : Vals (prm js zs) (prm js ws) := by
  unfold prm
  rw [show zs.length = ws.length from h.length]
  split
  · have go : ∀ ks : List Nat, Vals (ks.filterMap (zs[·]?)) (ks.filterMap (ws[·]?)) := by
      intro ks
      induction ks with
      | nil => exact .nil
      | cons k ks ih =>
        rw [List.filterMap_cons, List.filterMap_cons]
        cases e : zs[k]? with
        | none =>
          have e2 : ws[k]? = none := by
            rw [List.getElem?_eq_none_iff] at e ⊢
            rw [← show zs.length = ws.length from h.length]
            exact e
          rw [e2]
          exact ih
        | some v =>
          obtain ⟨u, hu, rv⟩ := Vals.get h e
          rw [hu]
          exact .cons rv ih
    exact go js
  · exact .nil
section
variable {σ : L2.St} {H : Hp} {G : L2.St → Hp → Prop} {nx : L2.St → Hp → Prop} {rt : VK} {bk ct : L2.St → Hp → Prop} {i j l : Nat} {u v w : V}
theorem r_par3 {t : TA} (h : t σ H fun vs H1 => ∃ u v w, vs = [u, v, w] ∧ nx (((σ.set i (some u)).set j (some v)).set l (some w)) H1) : tPar3 i j l t ⟨nx, rt, bk, ct⟩ σ H := h
theorem r_par3b (h : G (((σ.set i (some u)).set j (some v)).set l (some w)) H) : ∃ a b c, [u, v, w] = [a, b, c] ∧ G (((σ.set i (some a)).set j (some b)).set l (some c)) H := ⟨u, v, w, rfl, h⟩
end
/-- the keywords' places of a def of the text -/
theorem KwB.of {K : PySem.W.Frag} {x qual : Str} {st : Stmt} {f : Addr} {fd : FuncData} {ps ks : List Str} {js : List Nat} (F : Fun K x qual st f fd) (hp : 0 < ps.length)
    (h : ∀ (kV doc pm : Value) (an : Option Addr) (cdv ct : Value) (us : List Value), us.length = js.length → bindArgs (PySem.W.fnOf x qual (defArgs st) (defBody st) (defScope st) .none kV doc pm an cdv ct) ⟨[], ks.zip us⟩ = pure (ps.zip (prm js us))) : KwB K fd ps ks (prm js) (prm js) := by
  obtain ⟨oc, od, kV, doc, pm, an, cdv, ct, osl, rfl, lk, hcd⟩ := F.ex
  exact ⟨fun s ws _ hl => .of_eq (h _ _ _ _ _ _ ws (prm_len hl hp)), prm_rl⟩
end Rg
namespace Rg
open PySem PySem.Spec PyProof.Rows L2
/-! ### the end: the law is called where no repr is under way -/
section
variable {P : Program} {w : World} {K : PySem.W.Frag} {mg mb : Str → Option Value} {k : Nat} {fa a : Addr} {fd : FuncData} {x : Str} {sp : Sp} {s1 : Shared} {vs : List Value} {ns : List Int}
/-- what the law's call shall come to -/
def Good (s1 : Shared) (r : Result) (s' : Shared) : Prop := r = .ok (.ret (.bool true)) ∧ OldK s1.heap s'.heap ∧ s'.os = s1.os ∧ AllBare s'.gens
/-- the tracked heap bears the script at most -/
structure Bears (K : PySem.W.Frag) (P : Program) (w : World) (s1 : Shared) (a : Addr) (xs : List V) (H : Hp) : Prop where
  only : ∀ b o, H b = some o → b = a ∧ ∃ u ys, o = .frz u (.lst ys)
  seq : SqL K H a xs
  ok : HOk P w H s1.heap
  out : ∀ o, H a = some o → K.lookup a = none
theorem Bears.no {K : PySem.W.Frag} {P : Program} {w : World} {s1 : Shared} {a b : Addr} {xs : List V} {H : Hp} (h : Bears K P w s1 a xs H) (n : b ≠ a) : H b = none := by
  cases q : H b with
  | none => rfl
  | some o => exact absurd (h.only b o q).1 n
theorem bears (KX : K.In s1.heap) (ha : s1.heap.get? a = some { cls := .type "list", data := .seq vs.toArray }) (hi : IntsAre vs ns) (hl : ns.length ≤ sizeLine) : ∃ H, Bears K P w s1 a (ns.map V.int) H := by
  have rv : Vals (ns.map V.int) vs := vals_ints hi
  cases hk : K.lookup a with
  | some o =>
    have e := KX a o hk
    rw [ha] at e
    cases e
    have z : ∀ (b : Addr) (o : HO), (fun _ => none : Hp) b = some o → False := fun b o q => by simp at q
    exact ⟨fun _ => none, ⟨fun b o q => (z b o q).elim, .inr ⟨_, vs.toArray, _, hk, rfl, rfl, rfl, by rw [List.size_toArray, hi.length]; exact hl, by simpa using rv⟩, fun b o q => (z b o q).elim, fun o q => (z a o q).elim⟩⟩
  | none =>
    have z : ∀ (b : Addr) (o : HO), (upd (fun _ => none) a (.frz { cls := .type "list", data := .seq vs.toArray } (.lst (ns.map V.int))) : Hp) b = some o → b = a ∧ o = .frz { cls := .type "list", data := .seq vs.toArray } (.lst (ns.map V.int)) := fun b o q => by
      by_cases h : b = a
      · subst h
        rw [upd_same] at q
        exact ⟨rfl, (Option.some.inj q).symm⟩
      · rw [upd_ne h] at q
        cases q
    refine ⟨upd (fun _ => none) a (.frz { cls := .type "list", data := .seq vs.toArray } (.lst (ns.map V.int))), ⟨fun b o q => ⟨(z b o q).1, _, _, (z b o q).2⟩, .inl (.inr ⟨_, upd_same⟩), fun b o q => ?_, fun _ _ => hk⟩⟩
    obtain ⟨rfl, rfl⟩ := z b o q
    exact ⟨ha, by rw [List.length_map]; exact hl, vs, _, rv, ha⟩
theorem lawG (KX : K.In s1.heap) (hns : s1.heap.Ns mainGlobals mg) (hb : s1.heap.Ns builtinsNs mb) (hbb : ∀ y : Str, y ≠ "__name__" → mb y = bootBuiltins y) (hlim : s1.heap.NoLimit) (hgen : s1.gens = #[])
    (ha : s1.heap.get? a = some { cls := .type "list", data := .seq vs.toArray }) (hi : IntsAre vs ns) (hl : ns.length ≤ sizeLine) (hr : Room k callerA)
    (F : ∀ base : Heap, K.In base → base.Ns mainGlobals mg → FnG P w K mg base CX0 k fa fd [x] sp) (hbind : ∀ (s : Shared) (u : Value), BindsTo s fd ⟨[u], []⟩ [(x, u)])
    (hsp : ∀ H : Hp, SqL K H a (ns.map V.int) → sp [.ref a] H (fun v _ => v = .bl true) fun _ _ _ => False) : codeAny (model P w) callerA (.call (.ref fa) ⟨[.ref a], []⟩) (Good s1) s1 := by
  obtain ⟨H, B⟩ := bears (P := P) (w := w) KX ha hi hl
  -- a dict of the heap is not the script
  have dct : ∀ {b : Addr} {o : Obj} {es : Array DictEntry} {n : Nat}, s1.heap.get? b = some o → o.data = .dict es n → (hidT s1.heap H).get? b = some o := fun {b o es n} e d => hidT_get e (B.no fun z => by
    subst z
    rw [ha] at e
    cases e
    cases d)
  have nsH : ∀ {b : Addr} {m : Str → Option Value}, s1.heap.Ns b m → (hidT s1.heap H).Ns b m := fun ⟨o, es, n, e, d, r⟩ => ⟨o, es, n, dct e d, d, r⟩
  have kH : K.In (hidT s1.heap H) := fun b o e => hidT_get (KX b o e) (by
    cases q : H b with
    | none => rfl
    | some u =>
      have e2 := (B.only b u q).1
      subst e2
      rw [B.out u q] at e
      cases e)
  obtain ⟨mc, l1, l2⟩ := hlim
  have e0 : Env0 P w K mg (hidT s1.heap H) callerA [] s1 H := ⟨rfl, ⟨kH, nsH hns, ⟨mb, nsH hb, hbb⟩, ⟨mc, nsH l1, l2⟩⟩, fun b o e => of_hidT e, Nat.le_of_eq (hidT_size _ _), trivial, (fun b z => nomatch (show b ∈ ([] : List Addr) from z)), B.ok, .of_eq hgen⟩
  refine codeAny_mono ((F _ kH (nsH hns)).go (us := [.ref a]) (vs := [.ref a]) rfl hr e0 (hbind s1 (.ref a)) (.cons rfl .nil) (hsp H B.seq)) fun r s' h => ?_
  match r, h with
  | .error _, h => exact h.elim
  | .ok .next, h => exact h.elim
  | .ok .brk, h => exact h.elim
  | .ok .cont, h => exact h.elim
  | .ok (.ret u), ⟨v, H', os, bare, un, hok', r', q⟩ =>
    obtain rfl : v = .bl true := q
    obtain rfl : u = Value.bool true := r'
    refine ⟨rfl, OldK.of_keep fun b o e => ?_, os, bare⟩
    cases q : H b with
    | none => exact un.keep b o e q (fun z => nomatch (show b ∈ ([] : List Addr) from z)) (by simp)
    | some u =>
      obtain ⟨_, ob, xs, rfl⟩ := B.only b u q
      have e1 := (B.ok b _ q).1
      rw [e] at e1
      cases e1
      exact (hok' b _ (un.frzs b o _ q)).1
end
theorem walkG {l : PySem.W.OpenLaw} {n k : Nat} {q : Program} {loose : List Str} {XP : (Str → Option Value) → Heap → Prop} {YP : World → Heap → Prop} {d : DefRec} {K : Params → PySem.W.Frag} {sp : PySem.W.Frag → Sp} {x : Str}
    (hn : l.most = some n) (hz : n ≤ sizeLine) (hdf : d.params.defaults = []) (hr : Room k callerA) (hY : ∀ (w : World) (h : Heap), YP w h → (K w.params).In h)
    (F : ∀ (w : World) (mg : Str → Option Value) (fa : Addr) (h : Heap), (K w.params).In h → h.Ns mainGlobals mg → mg d.name = some (.ref fa) → ∃ fd : FuncData, (∀ (s : Shared) (u : Value), BindsTo s fd ⟨[u], []⟩ [(x, u)]) ∧ ∀ base : Heap, (K w.params).In base → base.Ns mainGlobals mg → FnG l.prog w (K w.params) mg base CX0 k fa fd [x] (sp (K w.params)))
    (hsp : ∀ (K : PySem.W.Frag) (H : Hp) (a : Addr) (ns : List Int), ns.length ≤ n → SqL K H a (ns.map V.int) → sp K [.ref a] H (fun v _ => v = .bl true) fun _ _ _ => False) : PySem.W.WalkO q loose XP YP l.row.toRowW d [] (fun f vs => PySem.call f vs) := by
  refine Att.attach_call hn hdf fun w s0 s1 mg mb fa o pm cd doc a vs ns G Y ho hd hcd hmg hobj hints hlen hg => ?_
  obtain ⟨fd, hb, hF⟩ := F w mg fa _ (hY w _ Y) G.T.g hmg
  exact lawG (hY w _ Y) G.T.g G.T.b G.T.builtins G.T.nolimit hg hobj hints (Nat.le_trans hlen hz) hr hF hb fun H hS => hsp _ H a ns hlen hS
end Rg
namespace Rg
open PySem PySem.Spec PyProof.Rows L2
/-! ### data -/
structure Nice (d : PyData) (p w : Nat) : Prop where
  sh : d.showable = true
  nd : d.hasDict = false
  lv : d.leavesShort 150 = true
  cl : d.canLay0 = true
  dp : d.depth ≤ p
  wt : d.weight ≤ w
theorem Nice.mono {d : PyData} {p w p' w' : Nat} (h : Nice d p w) (hp : p ≤ p') (hw : w ≤ w') : Nice d p' w' := ⟨h.sh, h.nd, h.lv, h.cl, Nat.le_trans h.dp hp, Nat.le_trans h.wt hw⟩
theorem Nice.repr {d : PyData} {p w : Nat} (h : Nice d p w) (hp : p ≤ 20) (hw : w ≤ 100000) : reprD d := ⟨h.sh, h.nd, h.lv, Nat.le_trans h.dp hp, Nat.le_trans h.wt hw⟩
theorem Nice.shaped {d : PyData} {p w : Nat} (h : Nice d p w) (hp : p ≤ 64) : SeqAt.shaped d = true := by
  have e := Nat.le_trans h.dp hp
  unfold SeqAt.shaped
  rw [h.cl, decide_eq_true e]
  rfl
theorem shown_int (i : Int) : (PyData.shown (.int i)).length = (toString i).length := by
  simp only [PyData.shown]
  exact PySem.ofString_length _
theorem nice_int {i : Int} {n : Nat} (h : i.natAbs < 2 ^ n) (hn : n ≤ 148) : Nice (.int i) 0 n := by
  have hl : i.natAbs.log2 < 148 ∧ (i ≠ 0 → i.natAbs.log2 + 1 ≤ n) := by
    by_cases z : i.natAbs = 0
    · rw [z]
      exact ⟨by decide, fun q => absurd (Int.natAbs_eq_zero.mp z) q⟩
    · have := (Nat.log2_lt z).mpr h
      exact ⟨by omega, fun _ => by omega⟩
  refine ⟨by simp only [PyData.showable, decide_eq_true_eq]; omega, by simp only [PyData.hasDict], ?_, by simp only [PyData.canLay0], by simp only [PyData.depth]; omega, ?_⟩
  · simp only [PyData.leavesShort, decide_eq_true_eq]
    rw [shown_int]
    exact Nat.le_trans (int_text_length_le (k := 148) (by decide) hl.1) (by decide)
  · simp only [PyData.weight]
    by_cases z : i = 0
    · subst z
      simp
    · have e : (i == 0) = false := by simpa using z
      rw [e]
      exact hl.2 z
theorem nice_bool (b : Bool) : Nice (.bool b) 0 0 := ⟨by simp only [PyData.showable], by simp only [PyData.hasDict], by simp only [PyData.leavesShort], by simp only [PyData.canLay0], by simp only [PyData.depth]; omega, by simp only [PyData.weight]; omega⟩
theorem nice_none : Nice .none 0 0 := ⟨by simp only [PyData.showable], by simp only [PyData.hasDict], by simp only [PyData.leavesShort], by simp only [PyData.canLay0], by simp only [PyData.depth]; omega, by simp only [PyData.weight]; omega⟩
theorem nice_all {p w : Nat} : ∀ {ds : List PyData}, (∀ d ∈ ds, Nice d p w) → PyData.showableAll ds = true ∧ PyData.hasDictAll ds = false ∧ PyData.leavesShortAll 150 ds = true ∧ PyData.canLayAll0 ds = true ∧ PyData.depthAll ds ≤ p ∧ PyData.weightAll ds ≤ ds.length * (w + 1)
  | [], _ => ⟨by simp only [PyData.showableAll], by simp only [PyData.hasDictAll], by simp only [PyData.leavesShortAll], by simp only [PyData.canLayAll0], by simp only [PyData.depthAll]; omega, by simp only [PyData.weightAll]; omega⟩
  | d :: ds, h => by
    have a := h d (List.mem_cons_self ..)
    obtain ⟨b1, b2, b3, b4, b5, b6⟩ := nice_all (ds := ds) fun x hx => h x (List.mem_cons_of_mem _ hx)
    have aw := a.wt
    have ap := a.dp
    refine ⟨by simp only [PyData.showableAll, a.sh, b1, Bool.and_self], by simp only [PyData.hasDictAll, a.nd, b2, Bool.or_self], by simp only [PyData.leavesShortAll, a.lv, b3, Bool.and_self], by simp only [PyData.canLayAll0, a.cl, b4, Bool.and_self], by simp only [PyData.depthAll]; omega, ?_⟩
    simp only [PyData.weightAll]
    rw [List.length_cons, Nat.succ_mul]
    omega
theorem nice_list {ds : List PyData} {p w : Nat} (h : ∀ d ∈ ds, Nice d p w) : Nice (.list ds) (p + 1) (ds.length * (w + 1)) := by
  obtain ⟨b1, b2, b3, b4, b5, b6⟩ := nice_all h
  exact ⟨by simp only [PyData.showable, b1], by simp only [PyData.hasDict, b2], by simp only [PyData.leavesShort, b3], by simp only [PyData.canLay0, b4], by simp only [PyData.depth]; omega, by simp only [PyData.weight]; omega⟩
theorem nice_tup {ds : List PyData} {p w : Nat} (h : ∀ d ∈ ds, Nice d p w) : Nice (.tuple ds) (p + 1) (ds.length * (w + 1)) := by
  obtain ⟨b1, b2, b3, b4, b5, b6⟩ := nice_all h
  exact ⟨by simp only [PyData.showable, b1], by simp only [PyData.hasDict, b2], by simp only [PyData.leavesShort, b3], by simp only [PyData.canLay0, b4], by simp only [PyData.depth]; omega, by simp only [PyData.weight]; omega⟩
theorem nice_list2 {a b : PyData} {p w : Nat} (ha : Nice a p w) (hb : Nice b p w) : Nice (.list [a, b]) (p + 1) (2 * (w + 1)) := nice_list fun d hd => by
  rcases List.mem_cons.mp hd with rfl | hd
  · exact ha
  · rw [List.mem_singleton.mp hd]
    exact hb
def recD (p : Int × Int) : PyData := .tuple [.int p.1, .int p.2]
def lotD (lot : List (Int × Int)) : PyData := .list (lot.map recD)
def intsD (ns : List Int) : PyData := .list (ns.map .int)
theorem nice_rec {p : Int × Int} {n : Nat} (h1 : p.1.natAbs < 2 ^ n) (h2 : p.2.natAbs < 2 ^ n) (hn : n ≤ 148) : Nice (recD p) 1 (2 * (n + 1)) := nice_tup (ds := [.int p.1, .int p.2]) fun d hd => by
  rcases List.mem_cons.mp hd with rfl | hd
  · exact nice_int h1 hn
  · rw [List.mem_singleton.mp hd]
    exact nice_int h2 hn
theorem nice_lot {lot : List (Int × Int)} {n : Nat} (h : ∀ p ∈ lot, p.1.natAbs < 2 ^ n ∧ p.2.natAbs < 2 ^ n) (hn : n ≤ 148) : Nice (lotD lot) 2 (lot.length * (2 * (n + 1) + 1)) := by
  have z := nice_list (ds := lot.map recD) (p := 1) (w := 2 * (n + 1)) fun d hd => by
    obtain ⟨q, hq, rfl⟩ := List.mem_map.mp hd
    exact nice_rec (h q hq).1 (h q hq).2 hn
  rw [List.length_map] at z
  exact z
theorem nice_ints {ns : List Int} {n : Nat} (h : ∀ x ∈ ns, x.natAbs < 2 ^ n) (hn : n ≤ 148) : Nice (intsD ns) 1 (ns.length * (n + 1)) := by
  have z := nice_list (ds := ns.map PyData.int) (p := 0) (w := n) fun d hd => by
    obtain ⟨q, hq, rfl⟩ := List.mem_map.mp hd
    exact nice_int (h q hq) hn
  rw [List.length_map] at z
  exact z
section
variable {K : PySem.W.Frag} {H H' : Hp} {Q : VK}
theorem SqT.same {a : Addr} {xs : List V} (h : SqT K H a xs) (k : Same H H') : SqT K H' a xs := by
  rcases h with (h | ⟨o, h⟩) | h
  · exact .inl (.inl (k _ _ h))
  · exact .inl (.inr ⟨o, k _ _ h⟩)
  · exact .inr h
mutual
theorem Dp.same (k : Same H H') : ∀ {d : PyData} {v : V}, Dp K H v d → Dp K H' v d
  | .none, _, h => by
    cases h
    exact .non
  | .bool _, _, h => by
    cases h
    exact .bl _
  | .int _, _, h => by
    cases h
    exact .int _
  | .str _, _, h => by
    cases h
    exact .str _
  | .list ds, _, h => by
    cases h with
    | lst hs ha => exact .lst (Same.seq k hs) (DpAll.same k ha)
  | .tuple ds, _, h => by
    cases h with
    | tup hs ha => exact .tup (SqT.same hs k) (DpAll.same k ha)
  | .dict _, _, h => by cases h
theorem DpAll.same (k : Same H H') : ∀ {ds : List PyData} {vs : List V}, DpAll K H vs ds → DpAll K H' vs ds
  | [], _, h => by
    cases h
    exact .nil
  | d :: ds, _, h => by
    cases h with
    | cons h1 h2 => exact .cons (Dp.same k h1) (DpAll.same k h2)
end
theorem dpS {v : V} {d : PyData} (h : Dp K H v d) (k : Same H H') : Dp K H' v d := Dp.same k h
theorem dp_new {xs : List V} {ds : List PyData} {a : Addr} (h : H a = some (.lst xs)) (r : DpAll K H xs ds) : Dp K H (.ref a) (.list ds) := .lst (.inl (.inl h)) r
theorem dp_list2 {a : Addr} {x y : V} {d e : PyData} (h : H a = some (.lst [x, y])) (hd : Dp K H x d) (he : Dp K H y e) : Dp K H (.ref a) (.list [d, e]) := dp_new h (.cons hd (.cons he .nil))
/-- the same data on both sides -/
theorem r_neDD {x y : V} {d : PyData} (h1 : Dp K H x d) (h2 : Dp K H y d) (s : SeqAt.shaped d = true) (c : d.canLay0 = true) (q : Q (.bl false) H) : rNeD K x y H Q := ⟨d, d, h1, h2, s, s, by rw [PySem.SeqAt.eqv_refl d c]; exact q⟩
theorem r_eqDD {x y : V} {d : PyData} (h1 : Dp K H x d) (h2 : Dp K H y d) (s : SeqAt.shaped d = true) (c : d.canLay0 = true) (q : Q (.bl true) H) : rEqD K x y H Q := ⟨d, d, h1, h2, s, s, by rw [PySem.SeqAt.eqv_refl d c]; exact q⟩
/-- the same text on both sides -/
theorem r_neSS {x : Str} (q : Q (.bl false) H) : rNe (.str x) (.str x) H Q := r_neS (by rw [decide_eq_true rfl]; exact q)
end
end Rg
namespace Rg
open PySem PySem.Spec PyProof.Rows L2
/-! ### set(xs) of a list of ints -/
section
variable {P : Program} {w : World} {A : Around} {E : Value → Shared → Prop} {s : Shared}
/-- the set as it is made -/
abbrev fso (w : World) : Obj := { cls := .type "set", dict := none, data := .set #[] 0 (.fresh 0 0 (!w.params.followText "set-order")) }
theorem set_of_list {l : Addr} {its : Array Value} (ns : List Int) {Q : Value → Shared → Prop} (hh : A.handled = none) (hl : s.heap.IsList l its) (hi : IntsAre its.toList ns) (hb : ns.length + 1 < scanBound)
    (k : ∀ (h' : Heap) (tk c : Nat), SetR w h' s.heap.objs.size (fun j => decide (j ∈ ns)) c → c ≤ ns.length → (∀ b o, s.heap.get? b = some o → h'.get? b = some o) → Q (.ref s.heap.objs.size) { s with heap := h', toks := tk }) :
    wpAny (model P w) A (call (.type "set") [.ref l]) Q E s := by
  have sz : its.size = ns.length := by rw [← IntsAre.length hi, Array.length_toList]
  obtain ⟨c0, tl, mro⟩ := F.called_set.mro
  have made := F.called_set.made
  have sub := F.called_set.sub
  refine wpAny_call (codeAny_of_tree ?_)
  show wpAny (model P w) _ (callAny (.type "set") ⟨[.ref l], []⟩) _ _ s
  refine wpAny_pure ⟨Code.quiet_builtin _ (by decide +kernel), codeAny_builtin F.entry_type_call ?_⟩
  rw [Around.under_plain (weight_type_call_type "set" [.ref l] []) rfl]
  have nt := F.called_set.notType
  have cc := F.called_set.canCreate
  have tc := F.typeCall_set_1 (.ref l)
  repeat (any_goals (first | assumption | wp_step))
  refine codeAny_mono (code_set_led1 (.ref l) (E := E) (Q₁ := fun ob s1 => ob = .ref s.heap.objs.size ∧ s1 = { s with heap := s.heap.push (fso w) }) ⟨rfl, rfl⟩) fun r s1 hr => ?_
  match r, hr with
  | .error _, hr => exact hr
  | .ok .next, hr => exact hr.elim
  | .ok .brk, hr => exact hr.elim
  | .ok .cont, hr => exact hr.elim
  | .ok (.ret ob), hr =>
    obtain ⟨rfl, rfl⟩ := hr
    have at0 : (s.heap.push (fso w)).get? s.heap.objs.size = some (fso w) := Heap.get?_push_size _ rfl
    have ty : Shared.TypeIs { s with heap := s.heap.push (fso w) } (.ref s.heap.objs.size) "set" := ⟨_, at0, rfl⟩
    have il := F.called_set.init.lookup
    have ib := F.called_set.init.bind (.ref s.heap.objs.size)
    repeat (any_goals (first | assumption | wp_step))
    refine codeAny_mono (codeAny_call_builtin (R := wants (fun r s2 => r = .none ∧ ∃ h' tk c, s2 = { s with heap := h', toks := tk } ∧ SetR w h' s.heap.objs.size (fun j => decide (j ∈ ns)) c ∧ c ≤ ns.length ∧ (∀ b o, s.heap.get? b = some o → h'.get? b = some o)) E) F.called_set.init.plain F.entry_set_init (check_set_init_1 ty ?_)) fun r2 s2 hr2 => ?_
    · obtain ⟨⟨oc, od, odt, osl⟩, hol, hcl, nl, hdl⟩ := hl
      simp only at hcl hdl
      subst hcl
      subst hdl
      have hlt : l < s.heap.objs.size := Heap.lt_size hol
      have l1 : (s.heap.push (fso w)).IsList l its := ⟨_, Heap.get?_push_of_some _ hol, rfl, nl, rfl⟩
      have hol2 : (s.heap.push (fso w)).get? l = some { cls := .type "list", dict := od, data := .seq its nl, slots := osl } := Heap.get?_push_of_some _ hol
      have t1 := F.sub_list_set
      have t2 := F.sub_list_frozenset
      have t3 : (Value.type "list" == Value.type "dict") = false := by decide
      unfold Builtin.«set.__init__» noKeywords Builtin.Frozenset.updateFrom
      generalize hp : pyIter = pit
      wp_walk
      subst hp
      refine wpAny_pyIter_list l1 (wpAny_bind (wpAny_runValue ?_))
      have sz1 : (s.heap.push (fso w)).objs.size = s.heap.objs.size + 1 := Heap.size_push ..
      have hd3 : A.in1.in1.in1.handled = none := by simp [hh]
      have nI : l ≠ (s.heap.push (fso w)).objs.size := Nat.ne_of_lt (by rw [sz1]; exact Nat.lt_succ_of_lt hlt)
      have nS : s.heap.objs.size ∉ [(s.heap.push (fso w)).objs.size, l] := by
        intro z
        rcases List.mem_cons.mp z with z | z
        · exact Nat.ne_of_lt (by rw [sz1]; exact Nat.lt_succ_self _) z
        · exact Nat.ne_of_gt hlt (List.mem_singleton.mp z)
      have vals : ∀ (i : Nat) (v : Value), its[i]? = some v → ∃ k t, ns[i]? = some k ∧ v = .int k t := fun i v hv => by
        have hlt : i < ns.length := sz ▸ (Array.getElem?_eq_some_iff.mp hv).1
        obtain ⟨t, e⟩ := PyProof.Rows.IntsAre.int_at hi i v (by rw [Array.getElem?_toList]; exact hv)
        exact ⟨ns[i], t, List.getElem?_eq_getElem hlt, by rw [e, List.getD_eq_getElem?_getD, List.getElem?_eq_getElem hlt] <;> rfl⟩
      refine set_update_ints ((Walks.list hd3 _ l nI its).toS) s.heap.objs.size nS ns sz hb vals (its.size - 0) 0 _ (by omega) (Nat.zero_le _) ⟨⟨_, Heap.get?_push_size _ rfl, rfl, rfl⟩, l1.push _⟩ ⟨0, Nat.le_refl 0, setR_new_at (Heap.get?_push_of_some _ at0)⟩ fun s' c' mv hc' hS' => ?_
      obtain ⟨h', g', d', tk', os'⟩ := s'
      obtain rfl : g' = s.gens := mv.gens
      obtain rfl : d' = s.drawn := mv.drawn
      obtain rfl : os' = s.os := mv.os
      show wpAny _ _ _ _ _ _
      refine wpAny_pure ?_
      show wpAny _ _ (ret Value.none) _ _ _
      refine wpAny_pure ⟨rfl, h', tk', c', rfl, hS', sz ▸ hc', fun b o e => ?_⟩
      have b0 : b < s.heap.objs.size := Heap.lt_size e
      refine mv.heap b o (fun z => ?_) (Heap.get?_push_of_some _ (Heap.get?_push_of_some _ e))
      rcases List.mem_cons.mp z with z | z
      · exact Nat.ne_of_lt b0 z
      · exact Nat.ne_of_lt (by rw [sz1]; exact Nat.lt_succ_of_lt b0) (List.mem_singleton.mp z)
    · match r2, hr2 with
      | .error _, hr2 => exact hr2
      | .ok .next, hr2 => exact hr2.elim
      | .ok .brk, hr2 => exact hr2.elim
      | .ok .cont, hr2 => exact hr2.elim
      | .ok (.ret v), hr2 =>
        obtain ⟨rfl, h', tk, c', rfl, hS', hc', hk'⟩ := hr2
        repeat (any_goals (first | assumption | wp_step))
        exact k _ _ _ hS' hc' hk'
end
section
variable {X : Cx}
def rSetOfL (K : PySem.W.Frag) (w : World) : List V → Hp → VK → Prop := fun xs H Q => ∃ (l : Addr) (ns : List Int), xs = [.ref l] ∧ SqL K H l (ns.map V.int) ∧ ns.length ≤ 4000 ∧ ∀ (p : Addr) (c : Nat), H p = none → c ≤ ns.length → Q (.ref p) (upd H p (SetO w p (fun j => decide (j ∈ ns)) c))
theorem call_setL (hc : X.calm = true) : CallR X (.type "set") (rSetOfL X.K X.w) := by
  intro pins s σ H xs us Q I r h
  obtain ⟨l, ns, rfl, hs, hn, q⟩ := h
  cases r with
  | cons r1 r2 =>
    cases r2
    cases r1
    obtain ⟨its, rv, pl, _⟩ := I.list hs
    have hd : X.A.handled = none := I.ok.hd (by assumption)
    refine set_of_list ns hd pl.isList (by simpa using rv.ints) (by unfold scanBound; omega) fun h' tk c R hc hk => ?_
    exact ⟨.ref _, upd H s.heap.objs.size (SetO X.w s.heap.objs.size (fun j => decide (j ∈ ns)) c), I.laid (t' := tk) hk (Nat.le_refl _) (setO_new R), rfl, q _ _ (I.hok.fresh (Nat.le_refl _)) hc⟩
end
end Rg
namespace Rg
open PySem PySem.Spec PyProof.Rows L2
/-! ### xs[:0:-1] -/
theorem bnd_to0 {n : Nat} (h : 0 < n) : sliceBounds none (some 0) (some (-1)) n = ((n : Int) - 1, 0, -1) := by
  simp [sliceBounds]
  omega
theorem pick_to0 (its : Array Value) : slicePick its none (some 0) (some (-1)) = (its.toList.drop 1).reverse.toArray := by
  unfold slicePick
  by_cases h : 0 < its.size
  · rw [bnd_to0 h]
    have e : sliceRange ((its.size : Int) - 1) 0 (-1) = (List.range (its.size - 1)).map fun k => its.size - 1 - k := by
      unfold sliceRange
      have h1 : ¬ ((-1 : Int) > 0) := by decide
      by_cases c : (its.size : Int) - 1 > 0
      · have e : ((its.size : Int) - 1 - 0 - -1 - 1) / (- -1) = ((its.size - 1 : Nat) : Int) := by
          rw [show (- -1 : Int) = 1 by decide, Int.ediv_one]
          omega
        simp only [h1, if_false, c, if_true, e, Int.toNat_natCast]
        apply List.map_congr_left
        intro k hk
        have := List.mem_range.mp hk
        omega
      · have e : its.size - 1 = 0 := by omega
        simp only [h1, if_false, c, e]
        rfl
    show ((sliceRange ((its.size : Int) - 1) 0 (-1)).filterMap (its[·]?)).toArray = _
    rw [e]
    congr 1
    have hl : its.toList.length = its.size := Array.length_toList
    generalize hn : its.size = n at *
    refine List.ext_getElem? fun i => ?_
    have fm : ((List.range (n - 1)).map fun k => n - 1 - k).filterMap (its[·]?) = (List.range (n - 1)).map fun k => its.toList.getD (n - 1 - k) Value.none := by
      rw [List.filterMap_map]
      have go : ∀ l : List Nat, (∀ k ∈ l, k < n - 1) → l.filterMap ((its[·]?) ∘ fun k => n - 1 - k) = l.map fun k => its.toList.getD (n - 1 - k) Value.none := by
        intro l hl2
        induction l with
        | nil => rfl
        | cons k l ih =>
          have hk := hl2 k (List.mem_cons_self ..)
          have hk2 : n - 1 - k < its.toList.length := by omega
          have e1 : ((its[·]?) ∘ fun k => n - 1 - k) k = some (its.toList.getD (n - 1 - k) Value.none) := by
            show its[n - 1 - k]? = _
            rw [← Array.getElem?_toList, List.getElem?_eq_getElem hk2, List.getD_eq_getElem?_getD, List.getElem?_eq_getElem hk2]
            rfl
          rw [List.filterMap_cons, e1, ih fun x hx => hl2 x (List.mem_cons_of_mem _ hx)]
          rfl
      exact go _ fun k hk => List.mem_range.mp hk
    rw [fm, List.getElem?_map]
    by_cases c : i < n - 1
    · rw [List.getElem?_range c, List.getElem?_reverse (by rw [List.length_drop]; omega), List.getElem?_drop, List.length_drop, hl]
      have e2 : 1 + (n - 1 - 1 - i) = n - 1 - i := by omega
      have hk2 : n - 1 - i < its.toList.length := by omega
      rw [e2, List.getElem?_eq_getElem hk2]
      show some (its.toList.getD (n - 1 - i) Value.none) = _
      rw [List.getD_eq_getElem?_getD, List.getElem?_eq_getElem hk2]
      rfl
    · rw [List.getElem?_eq_none (by rw [List.length_range]; omega), List.getElem?_eq_none (by rw [List.length_reverse, List.length_drop]; omega)]
      rfl
  · have e : its = #[] := Array.eq_empty_of_size_eq_zero (by omega)
    subst e
    rfl
def tRev0 (K : PySem.W.Frag) (te : TE) : TE := fun σ H Q => te σ H fun x H1 => ∃ a xs, x = .ref a ∧ SqL K H1 a xs ∧ ∀ p, H1 p = none → Q (.ref p) (upd H1 p (.lst (xs.drop 1).reverse))
section
variable {X : Cx}
theorem vals_drop {xs : List V} {us : List Value} (h : Vals xs us) : Vals (xs.drop 1) (us.drop 1) := by
  cases h with
  | nil => exact .nil
  | cons _ t => exact t
theorem pe_rev0 {e : Expr} {te : TE} {j k : Nat} {p0 p1 p2 p3 pos : Pos} (he : PE X e te) : PE X (.Subscript e (.Slice none (some (.Constant (.int 0) j p0)) (some (.UnaryOp .USub (.Constant (.int 1) k p1) p2)) p3) pos) (tRev0 X.K te) := by
  constructor
  intro pins s σ H Q I h
  refine Subscript_ (thn (he.run pins s σ H _ I h) fun v s1 z => ?_)
  obtain ⟨x, H1, I1, r1, a, xs, rfl, hx, q⟩ := z
  cases r1
  have po0 : PO X (some (.Constant (.int 0) j p0)) (tPart (tC (.int 0))) := po_some pe_int
  have po1 : PO X (some (.UnaryOp .USub (.Constant (.int 1) k p1) p2)) (tPart (tUn (rU fun i => .int (-i)) (tC (.int 1)))) := po_some (pe_un un_neg pe_int)
  refine wpAny_Slice (thn (po_none.run pins s1 σ H1 (fun o G => o = none ∧ G = H1) I1 ⟨rfl, rfl⟩) fun vl s2 z => ?_)
  obtain ⟨_, _, I2, pl, rfl, rfl⟩ := z
  refine thn (po0.run pins s2 σ _ (fun o G => o = some 0 ∧ G = _) I2 ⟨0, rfl, rfl, rfl⟩) fun vu s3 z => ?_
  obtain ⟨_, _, I3, pu, rfl, rfl⟩ := z
  refine thn (po1.run pins s3 σ _ (fun o G => o = some (-1) ∧ G = _) I3 ⟨1, rfl, -1, rfl, rfl, rfl⟩) fun vs s4 z => ?_
  obtain ⟨_, _, I4, ps, rfl, rfl⟩ := z
  have I5 : Inv X pins σ _ { s4 with heap := s4.heap.push { cls := .type "slice", data := .fields #[vl, vu, vs] } } := I4.kept (t' := s4.toks) fun b ob q => Heap.get?_push_of_some _ q
  obtain ⟨its, r, ht, hz⟩ := I5.list hx
  show wpAny (model X.prog X.w) X.A (subscriptTail e _ (.ref a) (.ref s4.heap.objs.size)) (EP X pins σ Q) X.xe { s4 with heap := s4.heap.push { cls := .type "slice", data := .fields #[vl, vu, vs] } }
  refine tail_any (ops := [.ref a, .ref s4.heap.objs.size]) ht.isList.typeIs PySem.slot_list_getitem.lookup ?_ (by with_unfolding_all rfl)
  refine wpAny_getItem_list_slice ht.isList (Heap.IsSliceOf.new _ vl vu vs) pl pu ps (by decide) ?_ (by rw [List.size_toArray, ← r.length]; exact hz)
  rw [pick_to0]
  refine ⟨.ref _, _, I5.laid (t' := s4.toks) (o := .lst (xs.drop 1).reverse) (fun b ob q => Heap.get?_push_of_some _ q) (Nat.le_refl _) ?_, rfl, q _ (I5.hok.fresh (Nat.le_refl _))⟩
  exact ⟨by rw [List.length_reverse, List.length_drop]; omega, _, 0, (vals_drop r).reverse, Heap.get?_push_size _ rfl⟩
end
section
variable {K : PySem.W.Frag} {σ : L2.St} {H : Hp} {Q : VK} {te : TE}
theorem r_rev0 (h : te σ H fun x H1 => ∃ a xs, x = .ref a ∧ SqL K H1 a xs ∧ ∀ p, H1 p = none → Q (.ref p) (upd H1 p (.lst (xs.drop 1).reverse))) : tRev0 K te σ H Q := h
theorem r_revL (h : te σ H fun x H1 => ∃ a xs, x = .ref a ∧ SqL K H1 a xs ∧ ∀ p, H1 p = none → Q (.ref p) (upd H1 p (.lst xs.reverse))) : tRevL K te σ H Q := h
end
end Rg
namespace Rg
open PySem PySem.Spec PyProof.Rows L2
/-! ### classes of errors without a constructor of their own -/
abbrev veB : List Value := [.type "ValueError", .type "Exception", .type "BaseException", .type "object"]
structure Xc (K : PySem.W.Frag) (mg : Str → Option Value) (x : Str) (C : Addr) : Prop where
  g : mg x = some (.ref C)
  ex : PySem.W.excIn K C veB "ValueError.__new__" = true
  kp : PySem.W.keepIn K (.ref C) = true
  sb : PySem.W.subIn K (.ref C) (.type "BaseException") = some true
  ty : PySem.W.typeIn K (.ref C) = some (.type "type")
  me : PySem.W.exmOne K (.ref C) (.ref C) = some true
theorem Xc.raises {X : Cx} {x : Str} {C : Addr} (T : Xc X.K X.mg x C) : Raises X (.ref C) := raises_own T.sb T.ty
def tRz (C : Addr) (W : WX) : TS := fun _ σ H => W (.ref C) none σ H
theorem ps_raiseT {X : Cx} {W : WX} {x m : Str} {C : Addr} {j : Nat} {p p2 pos pos' : Pos} (hc : X.calm = true) (T : Xc X.K X.mg x C) (tk : Takes X W) (hg : Gl X x) (hdb : (x == ("__debug__" : Str)) = false := by decide) :
    PS X (.Raise (some (.Call (.Name x p) [.Constant (.str m) j p2] [] pos)) none pos') (tRz C W) :=
  ps_raise hc tk (pmk_own PySem.F.excBase_ValueError T.ex T.g T.kp T.raises hg hdb)
/-- what an own class's name tells by itself -/
theorem exm_self {K : PySem.W.Frag} {S : Addr} (h1 : PySem.W.subIn K (.ref S) (.type "BaseException") = some true) (h2 : PySem.W.isClsIn K S = true) (h3 : PySem.W.typeIn K (.ref S) = some (.type "type")) (h4 : PySem.W.subIn K (.ref S) (.ref S) = some true) :
    PySem.W.exmOne K (.ref S) (.ref S) = some true := by
  have e1 : (PySem.W.subIn K (.ref S) (.type "BaseException") == some true) = true := by rw [h1] <;> rfl
  have e2 : ((PySem.W.clsIn K S).isSome && PySem.W.typeIn K (.ref S) == some (.type "type")) = true := by
    have h2' : (PySem.W.clsIn K S).isSome = true := h2
    rw [h2', h3] <;> rfl
  show (if (PySem.W.subIn K (.ref S) (.type "BaseException") == some true) = true then (if ((PySem.W.clsIn K S).isSome && PySem.W.typeIn K (.ref S) == some (.type "type")) = true then PySem.W.subIn K (.ref S) (.ref S) else none) else none) = some true
  rw [if_pos e1, if_pos e2]
  exact h4
/-! ### repr of any such data -/
section
variable {X : Cx}
def rReprV (K : PySem.W.Frag) : List V → Hp → VK → Prop := fun xs H Q => (xs = [.non] ∧ Q (.str (PyData.none).shown) H) ∨ rRepr K xs H Q
theorem call_reprV (hg : X.A.guards = some []) (hu : X.A.units + 64 < cLine) : CallR X (.builtin "repr") (rReprV X.K) := by
  intro pins s σ H xs us Q I r h
  rcases h with ⟨rfl, q⟩ | h
  · cases r with
    | cons r1 r2 =>
      cases r2
      cases r1
      have e : (PyData.none).shown = ("None" : Str) := by simp only [PyData.shown]
      rw [e] at q
      exact PySem.P.repr_of_none ⟨.str _, H, I.tok _, ⟨_, rfl⟩, q⟩
  · exact call_repr hg hu pins s σ H xs us Q I r h
end
section
variable {K : PySem.W.Frag} {H : Hp} {Q : VK}
theorem r_reprV {a : Addr} {d : PyData} (hd : Dp K H (.ref a) d) (hr : reprD d) (q : Q (.str d.shown) H) : rReprV K [.ref a] H Q := .inr ⟨a, d, rfl, hd, hr, q⟩
theorem r_reprN (q : Q (.str (PyData.none).shown) H) : rReprV K [.non] H Q := .inl ⟨rfl, q⟩
end
end Rg
namespace R04
open PySem PySem.Spec PyProof.Rows L2 Rg
def top (i : Nat) : Stmt := PySem.Challenge.pw_ringreads_k04_records_moved_mirrored_mul.main.body.getD i (.Pass ⟨0, 0, 0, 0⟩)
abbrev s_is_integer : Stmt := top 11
abbrev N_is_integer : List Str := ["value"]
abbrev P_is_integer : List Str := ["value"]
theorem sc_is_integer : FnScope N_is_integer P_is_integer (defScope s_is_integer) := ⟨rfl, rfl, rfl, by decide +kernel, rfl, by decide +kernel, by decide +kernel⟩
abbrev s_is_between : Stmt := top 12
abbrev N_is_between : List Str := ["value", "least", "most"]
abbrev P_is_between : List Str := ["value", "least", "most"]
theorem sc_is_between : FnScope N_is_between P_is_between (defScope s_is_between) := ⟨rfl, rfl, rfl, by decide +kernel, rfl, by decide +kernel, by decide +kernel⟩
abbrev s_is_from : Stmt := top 13
abbrev N_is_from : List Str := ["value", "least"]
abbrev P_is_from : List Str := ["value", "least"]
theorem sc_is_from : FnScope N_is_from P_is_from (defScope s_is_from) := ⟨rfl, rfl, rfl, by decide +kernel, rfl, by decide +kernel, by decide +kernel⟩
abbrev s_is_list : Stmt := top 14
abbrev N_is_list : List Str := ["value", "least", "most"]
abbrev P_is_list : List Str := ["value", "least", "most"]
theorem sc_is_list : FnScope N_is_list P_is_list (defScope s_is_list) := ⟨rfl, rfl, rfl, by decide +kernel, rfl, by decide +kernel, by decide +kernel⟩
abbrev s_is_mark : Stmt := top 15
abbrev N_is_mark : List Str := ["marks", "value"]
abbrev P_is_mark : List Str := ["marks", "value"]
theorem sc_is_mark : FnScope N_is_mark P_is_mark (defScope s_is_mark) := ⟨rfl, rfl, rfl, by decide +kernel, rfl, by decide +kernel, by decide +kernel⟩
abbrev s_is_record : Stmt := top 16
abbrev N_is_record : List Str := ["marks", "value", "begin", "length"]
abbrev P_is_record : List Str := ["marks", "value"]
theorem sc_is_record : FnScope N_is_record P_is_record (defScope s_is_record) := ⟨rfl, rfl, rfl, by decide +kernel, rfl, by decide +kernel, by decide +kernel⟩
abbrev s_check_marks : Stmt := top 17
abbrev N_check_marks : List Str := ["marks"]
abbrev P_check_marks : List Str := ["marks"]
theorem sc_check_marks : FnScope N_check_marks P_check_marks (defScope s_check_marks) := ⟨rfl, rfl, rfl, by decide +kernel, rfl, by decide +kernel, by decide +kernel⟩
abbrev s_check_ring : Stmt := top 18
abbrev N_check_ring : List Str := ["marks", "records", "index", "record"]
abbrev P_check_ring : List Str := ["marks", "records"]
theorem sc_check_ring : FnScope N_check_ring P_check_ring (defScope s_check_ring) := ⟨rfl, rfl, rfl, by decide +kernel, rfl, by decide +kernel, by decide +kernel⟩
abbrev s_check_mark : Stmt := top 19
abbrev N_check_mark : List Str := ["marks", "mark"]
abbrev P_check_mark : List Str := ["marks", "mark"]
theorem sc_check_mark : FnScope N_check_mark P_check_mark (defScope s_check_mark) := ⟨rfl, rfl, rfl, by decide +kernel, rfl, by decide +kernel, by decide +kernel⟩
abbrev s_check_integer : Stmt := top 20
abbrev N_check_integer : List Str := ["number"]
abbrev P_check_integer : List Str := ["number"]
theorem sc_check_integer : FnScope N_check_integer P_check_integer (defScope s_check_integer) := ⟨rfl, rfl, rfl, by decide +kernel, rfl, by decide +kernel, by decide +kernel⟩
abbrev s_check_least : Stmt := top 21
abbrev N_check_least : List Str := ["number", "least"]
abbrev P_check_least : List Str := ["number", "least"]
theorem sc_check_least : FnScope N_check_least P_check_least (defScope s_check_least) := ⟨rfl, rfl, rfl, by decide +kernel, rfl, by decide +kernel, by decide +kernel⟩
abbrev s_end_of : Stmt := top 23
abbrev N_end_of : List Str := ["marks", "record", "begin", "length"]
abbrev P_end_of : List Str := ["marks", "record"]
theorem sc_end_of : FnScope N_end_of P_end_of (defScope s_end_of) := ⟨rfl, rfl, rfl, by decide +kernel, rfl, by decide +kernel, by decide +kernel⟩
abbrev s_times_over : Stmt := top 24
abbrev N_times_over : List Str := ["marks", "record", "mark", "begin", "length"]
abbrev P_times_over : List Str := ["marks", "record", "mark"]
theorem sc_times_over : FnScope N_times_over P_times_over (defScope s_times_over) := ⟨rfl, rfl, rfl, by decide +kernel, rfl, by decide +kernel, by decide +kernel⟩
abbrev s_cover_of : Stmt := top 25
abbrev N_cover_of : List Str := ["marks", "records", "mark", "record"]
abbrev P_cover_of : List Str := ["marks", "records", "mark"]
theorem sc_cover_of : FnScope N_cover_of P_cover_of (defScope s_cover_of) := ⟨rfl, rfl, rfl, by decide +kernel, rfl, by decide +kernel, by decide +kernel⟩
abbrev s_cover_at : Stmt := top 26
abbrev N_cover_at : List Str := ["marks", "records", "mark"]
abbrev P_cover_at : List Str := ["marks", "records", "mark"]
theorem sc_cover_at : FnScope N_cover_at P_cover_at (defScope s_cover_at) := ⟨rfl, rfl, rfl, by decide +kernel, rfl, by decide +kernel, by decide +kernel⟩
abbrev s_moved : Stmt := top 27
abbrev N_moved : List Str := ["marks", "records", "by", "begin", "length"]
abbrev P_moved : List Str := ["marks", "records", "by"]
theorem sc_moved : FnScope N_moved P_moved (defScope s_moved) := ⟨rfl, rfl, rfl, by decide +kernel, rfl, by decide +kernel, by decide +kernel⟩
abbrev s_mirrored : Stmt := top 28
abbrev N_mirrored : List Str := ["marks", "records", "record"]
abbrev P_mirrored : List Str := ["marks", "records"]
theorem sc_mirrored : FnScope N_mirrored P_mirrored (defScope s_mirrored) := ⟨rfl, rfl, rfl, by decide +kernel, rfl, by decide +kernel, by decide +kernel⟩
abbrev s_multiplied : Stmt := top 29
abbrev N_multiplied : List Str := ["marks", "records", "factor", "longest", "begin", "length", "_"]
abbrev P_multiplied : List Str := ["marks", "records", "factor"]
theorem sc_multiplied : FnScope N_multiplied P_multiplied (defScope s_multiplied) := ⟨rfl, rfl, rfl, by decide +kernel, rfl, by decide +kernel, by decide +kernel⟩
abbrev s_law_source : Stmt := top 31
abbrev N_law_source : List Str := ["cell", "k", "great"]
abbrev P_law_source : List Str := ["cell", "k"]
theorem sc_law_source : FnScope N_law_source P_law_source (defScope s_law_source) := ⟨rfl, rfl, rfl, by decide +kernel, rfl, by decide +kernel, by decide +kernel⟩
abbrev s_law_draw : Stmt := top 32
abbrev N_law_draw : List Str := ["source", "count", "digit", "mixed"]
abbrev P_law_draw : List Str := ["source", "count"]
theorem sc_law_draw : FnScope N_law_draw P_law_draw (defScope s_law_draw) := ⟨rfl, rfl, rfl, by decide +kernel, rfl, by decide +kernel, by decide +kernel⟩
abbrev s_law_lot : Stmt := top 33
abbrev N_law_lot : List Str := ["source", "wide", "many", "found", "way", "spot", "k", "size", "at"]
abbrev P_law_lot : List Str := ["source", "wide", "many"]
theorem sc_law_lot : FnScope N_law_lot P_law_lot (defScope s_law_lot) := ⟨rfl, rfl, rfl, by decide +kernel, rfl, by decide +kernel, by decide +kernel⟩
abbrev s_law_far_lot : Stmt := top 34
abbrev N_law_far_lot : List Str := ["source", "many", "wide", "spots", "found", "k", "at", "size", "way", "turn"]
abbrev P_law_far_lot : List Str := ["source", "many"]
theorem sc_law_far_lot : FnScope N_law_far_lot P_law_far_lot (defScope s_law_far_lot) := ⟨rfl, rfl, rfl, by decide +kernel, rfl, by decide +kernel, by decide +kernel⟩
abbrev s_law_times : Stmt := top 35
abbrev N_law_times : List Str := ["wide", "lot", "fold"]
abbrev P_law_times : List Str := ["wide", "lot", "fold"]
theorem sc_law_times : FnScope N_law_times P_law_times (defScope s_law_times) := ⟨rfl, rfl, rfl, by decide +kernel, rfl, by decide +kernel, by decide +kernel⟩
abbrev s_law_right : Stmt := top 36
abbrev N_law_right : List Str := ["source", "wide", "lot", "kept", "far", "step", "due", "told", "other", "turned", "spot", "at", "size"]
abbrev P_law_right : List Str := ["source", "wide", "lot"]
theorem sc_law_right : FnScope N_law_right P_law_right (defScope s_law_right) := ⟨rfl, rfl, rfl, by decide +kernel, rfl, by decide +kernel, by decide +kernel⟩
abbrev s_law_times_right : Stmt := top 37
abbrev N_law_times_right : List Str := ["source", "wide", "lot", "longest", "top", "fold", "due", "told", "spot", "at", "size"]
abbrev P_law_times_right : List Str := ["source", "wide", "lot"]
theorem sc_law_times_right : FnScope N_law_times_right P_law_times_right (defScope s_law_times_right) := ⟨rfl, rfl, rfl, by decide +kernel, rfl, by decide +kernel, by decide +kernel⟩
abbrev s_law : Stmt := top 38
abbrev N_law : List Str := ["script", "k", "cell", "source", "wide", "lot", "far", "one", "some"]
abbrev P_law : List Str := ["script"]
theorem sc_law : FnScope N_law P_law (defScope s_law) := ⟨rfl, rfl, rfl, by decide +kernel, rfl, by decide +kernel, by decide +kernel⟩
/-- what the top has written of them -/
structure Tx (K : PySem.W.Frag) (mg : Str → Option Value) where
  a_is_integer : Addr
  d_is_integer : FuncData
  p_is_integer : Df K mg "is_integer" s_is_integer P_is_integer a_is_integer d_is_integer
  a_is_between : Addr
  d_is_between : FuncData
  p_is_between : Df K mg "is_between" s_is_between P_is_between a_is_between d_is_between
  a_is_from : Addr
  d_is_from : FuncData
  p_is_from : Df K mg "is_from" s_is_from P_is_from a_is_from d_is_from
  a_is_list : Addr
  d_is_list : FuncData
  p_is_list : Df K mg "is_list" s_is_list P_is_list a_is_list d_is_list
  a_is_mark : Addr
  d_is_mark : FuncData
  p_is_mark : Df K mg "is_mark" s_is_mark P_is_mark a_is_mark d_is_mark
  a_is_record : Addr
  d_is_record : FuncData
  p_is_record : Df K mg "is_record" s_is_record P_is_record a_is_record d_is_record
  a_check_marks : Addr
  d_check_marks : FuncData
  p_check_marks : Df K mg "check_marks" s_check_marks P_check_marks a_check_marks d_check_marks
  a_check_ring : Addr
  d_check_ring : FuncData
  p_check_ring : Df K mg "check_ring" s_check_ring P_check_ring a_check_ring d_check_ring
  a_check_mark : Addr
  d_check_mark : FuncData
  p_check_mark : Df K mg "check_mark" s_check_mark P_check_mark a_check_mark d_check_mark
  a_check_integer : Addr
  d_check_integer : FuncData
  p_check_integer : Df K mg "check_integer" s_check_integer P_check_integer a_check_integer d_check_integer
  a_check_least : Addr
  d_check_least : FuncData
  p_check_least : Df K mg "check_least" s_check_least P_check_least a_check_least d_check_least
  a_end_of : Addr
  d_end_of : FuncData
  p_end_of : Df K mg "end_of" s_end_of P_end_of a_end_of d_end_of
  a_times_over : Addr
  d_times_over : FuncData
  p_times_over : Df K mg "times_over" s_times_over P_times_over a_times_over d_times_over
  a_cover_of : Addr
  d_cover_of : FuncData
  p_cover_of : Df K mg "cover_of" s_cover_of P_cover_of a_cover_of d_cover_of
  a_cover_at : Addr
  d_cover_at : FuncData
  p_cover_at : Df K mg "cover_at" s_cover_at P_cover_at a_cover_at d_cover_at
  a_moved : Addr
  d_moved : FuncData
  p_moved : Df K mg "moved" s_moved P_moved a_moved d_moved
  a_mirrored : Addr
  d_mirrored : FuncData
  p_mirrored : Df K mg "mirrored" s_mirrored P_mirrored a_mirrored d_mirrored
  a_multiplied : Addr
  d_multiplied : FuncData
  p_multiplied : Df K mg "multiplied" s_multiplied P_multiplied a_multiplied d_multiplied
  a_law_source : Addr
  d_law_source : FuncData
  p_law_source : Df K mg "_law_source" s_law_source P_law_source a_law_source d_law_source
  a_law_draw : Addr
  d_law_draw : FuncData
  p_law_draw : Df K mg "_law_draw" s_law_draw P_law_draw a_law_draw d_law_draw
  a_law_lot : Addr
  d_law_lot : FuncData
  p_law_lot : Df K mg "_law_lot" s_law_lot P_law_lot a_law_lot d_law_lot
  a_law_far_lot : Addr
  d_law_far_lot : FuncData
  p_law_far_lot : Df K mg "_law_far_lot" s_law_far_lot P_law_far_lot a_law_far_lot d_law_far_lot
  a_law_times : Addr
  d_law_times : FuncData
  p_law_times : Df K mg "_law_times" s_law_times P_law_times a_law_times d_law_times
  a_law_right : Addr
  d_law_right : FuncData
  p_law_right : Df K mg "_law_right" s_law_right P_law_right a_law_right d_law_right
  a_law_times_right : Addr
  d_law_times_right : FuncData
  p_law_times_right : Df K mg "_law_times_right" s_law_times_right P_law_times_right a_law_times_right d_law_times_right
  a_law : Addr
  d_law : FuncData
  p_law : Df K mg "law" s_law P_law a_law d_law
  n_abs : mg "abs" = none
  n_bool : mg "bool" = none
  n_enumerate : mg "enumerate" = none
  n_int : mg "int" = none
  n_isinstance : mg "isinstance" = none
  n_len : mg "len" = none
  n_list : mg "list" = none
  n_max : mg "max" = none
  n_min : mg "min" = none
  n_range : mg "range" = none
  n_repr : mg "repr" = none
  n_sum : mg "sum" = none
  n_tuple : mg "tuple" = none
  n_type : mg "type" = none
  x_Impossible : Addr
  X_Impossible : Xc K mg "Impossible" x_Impossible
  t_MOST_LENGTH : Tok
  c_MOST_LENGTH : mg "MOST_LENGTH" = some (.int (10 ^ 31) t_MOST_LENGTH)
  t_MOST_MARKS : Tok
  c_MOST_MARKS : mg "MOST_MARKS" = some (.int (10 ^ 30) t_MOST_MARKS)
  t_MOST_RECORDS : Tok
  c_MOST_RECORDS : mg "MOST_RECORDS" = some (.int (30) t_MOST_RECORDS)
  kb0_moved : KwB K d_moved P_moved ["by", "records", "marks"] (prm [2, 1, 0]) (prm [2, 1, 0])
  kb1_mirrored : KwB K d_mirrored P_mirrored ["records", "marks"] (prm [1, 0]) (prm [1, 0])
  kb2_multiplied : KwB K d_multiplied P_multiplied ["factor", "records", "marks"] (prm [2, 1, 0]) (prm [2, 1, 0])
end R04
namespace R04
open PySem PySem.Spec PyProof.Rows L2 Rg
local macro_rules | `(tactic| walk_at "rs") => `(tactic| (first
  | with_reducible refine Rg.r_seq ?_ | with_reducible refine Rg.r_asg ?_ | with_reducible refine Rg.r_name ?_ | with_reducible refine Rg.r_drop ?_ | with_reducible refine Rg.r_ret ?_ | with_reducible refine Rg.r_next ?_
  | refine Rg.r_var rfl ?_ | with_reducible refine Rg.r_c ?_ | with_reducible refine Rg.r_op ?_ | with_reducible refine Rg.r_un ?_ | with_reducible refine Rg.r_rU ?_ | with_reducible refine Rg.r_I0 ?_
  | with_reducible refine Rg.r_eqI ?_ | with_reducible refine Rg.r_neI ?_ | with_reducible refine Rg.r_test ?_ | with_reducible refine Rg.r_B ?_ | with_reducible refine Rg.r_bl ?_ | with_reducible refine Rg.r_not ?_ | with_reducible refine Rg.r_and ?_ | with_reducible refine Rg.r_or ?_
  | with_reducible refine Rg.r_andV ?_ | with_reducible refine Rg.r_orV ?_ | with_reducible refine Rg.r_notV ?_ | with_reducible refine Rg.r_if ?_ | with_reducible refine Rg.r_ifE ?_ | with_reducible refine Rg.r_chain ?_
  | with_reducible refine Rg.r_cb ?_ | with_reducible refine Rg.r_call ?_ | with_reducible refine Rg.r_nil ?_ | with_reducible refine Rg.r_cons ?_ | with_reducible refine Rg.r_lst ?_ | with_reducible refine Rg.r_tup ?_ | with_reducible refine Rg.r_sl ?_ | with_reducible refine Rg.r_noP ?_ | with_reducible refine Rg.r_part ?_ | with_reducible refine Rg.r_int ?_
  | with_reducible refine Rg.r_intI ?_ | with_reducible refine Rg.r_intB ?_ | with_reducible refine Rg.r_abs2 ?_ | with_reducible refine Rg.r_mx2 ?_ | with_reducible refine Rg.r_mn2 ?_ | with_reducible refine Rg.r_sub ?_ | with_reducible refine Rg.r_par ?_ | with_reducible refine Rg.r_par2 ?_ | with_reducible refine Rg.r_bm ?_
  | with_reducible refine Rg.r_gcons ?_ | with_reducible refine Rg.r_gnil ?_ | refine Rg.r_aug rfl ?_ | with_reducible refine Rg.r_ip ?_ | with_reducible refine iteT ?_ | with_reducible refine iteF ?_
  | with_reducible refine Rg.r_par3 ?_ | with_reducible refine Rg.r_par3b ?_ | with_reducible refine Rg.r_kw ?_ | with_reducible refine Rg.r_rev0 ?_ | with_reducible refine Rg.r_revL ?_
  | with_reducible refine Rg.r_for ?_ | with_reducible refine Rg.r_lc ?_ | with_reducible refine Rg.r_ilist ?_ | with_reducible refine Rg.r_ienum ?_ | with_reducible refine Rg.r_izip ?_ | with_reducible refine Rg.r_irng1 ?_ | with_reducible refine Rg.r_irng2 ?_))
local macro_rules | `(tactic| walk_at "nm") => `(tactic| (try simp only [L2.start, List.map_cons, List.map_nil, List.length_cons, List.length_nil, List.replicate_succ, List.replicate_zero, List.cons_append, List.nil_append, List.set_cons_succ, List.set_cons_zero, Nat.reduceAdd, Nat.reduceSub, Nat.zero_add, Nat.add_zero]))
section
variable {P : Program} {w : World} {K : PySem.W.Frag} {mg : Str → Option Value} {base : Heap}
def spDraw : Sp := fun vs H Q _ => ∃ (a : Addr) (c : Int) (N : Nat), vs = [.ref a, .int c] ∧ Src a N H ∧ 0 < c ∧ c.natAbs < 2 ^ 8000 ∧ N < 10 ^ 9 ∧
  ∀ r H', 0 ≤ r → r < c → Sx a H H' → Src a (N + 1) H' → Q (.int r) H'
theorem pow10 (n : Nat) : ((10 : Int) ^ (Int.toNat (n : Int))) = 10 ^ n := by rw [Int.toNat_natCast]
theorem cpow {b : Int} (e : Nat) (he : e ≤ 1000) {n : Nat} (hn : n ≤ 100000) (hb : b.natAbs < 2 ^ n) : CPowW b (e : Int) := ⟨by omega, by omega, Nat.lt_of_lt_of_le hb (Nat.pow_le_pow_right (by decide) hn)⟩
theorem ok_law_draw (T : Tx K mg) : FnOk P w K mg base CX0 1 T.a_law_draw T.d_law_draw P_law_draw spDraw := by
  refine T.p_law_draw.fn.ok sc_law_draw (fun vs H Q E h => ?_) (fun cdv A outer s H vs Q E hr h => ?_)
  · obtain ⟨a, c, N, rfl, _⟩ := h
    rfl
  · obtain ⟨a, c, N, rfl, ⟨x, y, z, hs, y0, y1, z0, z1⟩, c0, c1, hN, k⟩ := h
    refine ⟨_, (pss_cons (ps_if (pt_cmpR op_gt (pe_ix ix_list (pv 0) pe_int (fun _ _ => rfl)) pe_int (nomark _)) (pss_cons (ps_set (i := 2) sc_law_draw.nd rfl (.inl rfl) (pe_op op_mod (pe_callTy call_intI (by rfl) T.n_int (by rfl) (pa_cons (pe_ix ix_list (pv 0) pe_int (fun _ _ => rfl)) pa_nil)) (pv 1)))
      (pss_cons (ps_asg (pe_op op_fdivW (pe_ix ix_list (pv 0) pe_int (fun _ _ => rfl)) (pv 1)) (pg_sub (pv 0) pe_int set_list))
      (pss_one (ps_ret (pv 2))))) pss_nil)
      (pss_cons (ps_asg (pe_op op_add (pe_ix ix_list (pv 0) pe_int (fun _ _ => rfl)) pe_int) (pg_sub (pv 0) pe_int set_list))
      (pss_cons (ps_set (i := 3) sc_law_draw.nd rfl (.inl rfl) (pe_op op_mod (pe_callTy call_intI (by rfl) T.n_int (by rfl) (pa_cons (pe_op op_powW (pe_op op_add (pe_ix ix_list (pv 0) pe_int (fun _ _ => rfl)) (pe_op op_mulW pe_int (pe_ix ix_list (pv 0) pe_int (fun _ _ => rfl)))) pe_int) pa_nil)) (pe_op op_add (pe_op op_powW pe_int pe_int) pe_int)))
      (pss_cons (ps_set (i := 3) sc_law_draw.nd rfl (.inl rfl) (pe_op op_mod (pe_callTy call_intI (by rfl) T.n_int (by rfl) (pa_cons (pe_op op_powW (pe_op op_add (pe_op op_mulW (pv 3) (pe_ix ix_list (pv 0) pe_int (fun _ _ => rfl))) pe_int) pe_int) pa_nil)) (pe_op op_add (pe_op op_powW pe_int pe_int) pe_int)))
      (pss_one (ps_ret (pe_op op_mod (pe_callTy call_intI (by rfl) T.n_int (by rfl) (pa_cons (pe_op op_fdivW (pv 3) pe_int) pa_nil)) (pv 1)))))))), ?_⟩
    repeat walk_at "rs"
    refine r_ixL (sqe hs) at0 ?_
    repeat walk_at "rs"
    refine ite2 (fun e => ?_) (fun e => ?_)
    · repeat walk_at "rs"
      refine r_ixL (sqe hs) at0 ?_
      repeat walk_at "rs"
      refine r_I c0 ?_
      repeat walk_at "rs"
      refine r_ixL (sqe hs) at0 ?_
      repeat walk_at "rs"
      refine r_I (wide_div c0 c1 (by decide) (by decide)) ?_
      repeat walk_at "rs"
      refine r_setL (j := 0) hs rfl ?_
      repeat walk_at "rs"
      refine k _ _ (Int.emod_nonneg _ (by omega)) (Int.emod_lt_of_pos _ c0) (Sx.refl _ _).set ⟨_, y, z, upd_same, y0, y1, z0, by omega⟩
    · repeat walk_at "rs"
      refine r_ixL (sqe hs) at2 ?_
      repeat walk_at "rs"
      refine r_setL (j := 2) hs rfl ?_
      generalize hH1 : upd H a (HO.lst ([V.int x, V.int y, V.int z].set 2 (V.int (z + 1)))) = H1
      have hs1 : H1 a = some (.lst [.int x, .int y, .int (z + 1)]) := by
        rw [← hH1]
        exact upd_same
      have s1 : Sx a H H1 := by
        rw [← hH1]
        exact (Sx.refl _ _).set
      repeat walk_at "rs"
      refine r_ixL (sqe hs1) at1 ?_
      repeat walk_at "rs"
      refine r_ixL (sqe hs1) at2 ?_
      refine r_I (wide_mul (a := 20) (b := 64) (by decide) (by omega) (by decide) (by decide) (by decide)) ?_
      repeat walk_at "rs"
      refine r_I (cpow 3 (by decide) (n := 400) (by decide) (by omega)) ?_
      repeat walk_at "rs"
      refine r_I (cpow 39 (by decide) (n := 10) (by decide) (by decide)) ?_
      repeat walk_at "rs"
      refine r_I (by decide) ?_
      generalize (y + 900007 * (z + 1)) ^ Int.toNat 3 = b1
      have m1 := Int.emod_nonneg b1 (b := 10 ^ Int.toNat 39 + 3) (by decide)
      have m2 := Int.emod_lt_of_pos b1 (b := 10 ^ Int.toNat 39 + 3) (by decide)
      generalize hm : b1 % (10 ^ Int.toNat 39 + 3) = m at m1 m2 ⊢
      have m3 : m < 2 ^ 200 := Int.lt_of_lt_of_le m2 (by decide)
      repeat walk_at "rs"
      refine r_ixL (sqe hs1) at2 ?_
      refine r_I (wide_mul (a := 200) (b := 64) (by omega) (by omega) (by decide) (by decide) (by decide)) ?_
      repeat walk_at "rs"
      have m4 : (m * (z + 1)).natAbs < 2 ^ (200 + 64) := wide_lt (by omega) (by omega)
      refine r_I (cpow 3 (by decide) (n := 400) (by decide) (by omega)) ?_
      repeat walk_at "rs"
      refine r_I (cpow 40 (by decide) (n := 10) (by decide) (by decide)) ?_
      repeat walk_at "rs"
      refine r_I (by decide) ?_
      repeat walk_at "rs"
      refine r_I (wide_div (b := 20) (by decide) (by decide) (by decide) (by decide)) ?_
      repeat walk_at "rs"
      refine r_I c0 ?_
      exact k _ _ (Int.emod_nonneg _ (by omega)) (Int.emod_lt_of_pos _ c0) s1 ⟨_, y, _, hs1, y0, y1, by omega, by omega⟩
end
end R04
namespace R04
open PySem PySem.Spec PyProof.Rows L2 Rg
local macro_rules | `(tactic| walk_at "rs") => `(tactic| (first
  | with_reducible refine Rg.r_seq ?_ | with_reducible refine Rg.r_asg ?_ | with_reducible refine Rg.r_name ?_ | with_reducible refine Rg.r_drop ?_ | with_reducible refine Rg.r_ret ?_ | with_reducible refine Rg.r_next ?_
  | refine Rg.r_var rfl ?_ | with_reducible refine Rg.r_c ?_ | with_reducible refine Rg.r_op ?_ | with_reducible refine Rg.r_un ?_ | with_reducible refine Rg.r_rU ?_ | with_reducible refine Rg.r_I0 ?_
  | with_reducible refine Rg.r_eqI ?_ | with_reducible refine Rg.r_neI ?_ | with_reducible refine Rg.r_test ?_ | with_reducible refine Rg.r_B ?_ | with_reducible refine Rg.r_bl ?_ | with_reducible refine Rg.r_not ?_ | with_reducible refine Rg.r_and ?_ | with_reducible refine Rg.r_or ?_
  | with_reducible refine Rg.r_andV ?_ | with_reducible refine Rg.r_orV ?_ | with_reducible refine Rg.r_notV ?_ | with_reducible refine Rg.r_if ?_ | with_reducible refine Rg.r_ifE ?_ | with_reducible refine Rg.r_chain ?_
  | with_reducible refine Rg.r_cb ?_ | with_reducible refine Rg.r_call ?_ | with_reducible refine Rg.r_nil ?_ | with_reducible refine Rg.r_cons ?_ | with_reducible refine Rg.r_lst ?_ | with_reducible refine Rg.r_tup ?_ | with_reducible refine Rg.r_sl ?_ | with_reducible refine Rg.r_noP ?_ | with_reducible refine Rg.r_part ?_ | with_reducible refine Rg.r_int ?_
  | with_reducible refine Rg.r_intI ?_ | with_reducible refine Rg.r_intB ?_ | with_reducible refine Rg.r_abs2 ?_ | with_reducible refine Rg.r_mx2 ?_ | with_reducible refine Rg.r_mn2 ?_ | with_reducible refine Rg.r_sub ?_ | with_reducible refine Rg.r_par ?_ | with_reducible refine Rg.r_par2 ?_ | with_reducible refine Rg.r_bm ?_
  | with_reducible refine Rg.r_gcons ?_ | with_reducible refine Rg.r_gnil ?_ | refine Rg.r_aug rfl ?_ | with_reducible refine Rg.r_ip ?_ | with_reducible refine iteT ?_ | with_reducible refine iteF ?_
  | with_reducible refine Rg.r_par3 ?_ | with_reducible refine Rg.r_par3b ?_ | with_reducible refine Rg.r_kw ?_ | with_reducible refine Rg.r_rev0 ?_ | with_reducible refine Rg.r_revL ?_
  | with_reducible refine Rg.r_for ?_ | with_reducible refine Rg.r_lc ?_ | with_reducible refine Rg.r_ilist ?_ | with_reducible refine Rg.r_ienum ?_ | with_reducible refine Rg.r_izip ?_ | with_reducible refine Rg.r_irng1 ?_ | with_reducible refine Rg.r_irng2 ?_))
local macro_rules | `(tactic| walk_at "nm") => `(tactic| (try simp only [L2.start, List.map_cons, List.map_nil, List.length_cons, List.length_nil, List.replicate_succ, List.replicate_zero, List.cons_append, List.nil_append, List.set_cons_succ, List.set_cons_zero, Nat.reduceAdd, Nat.reduceSub, Nat.zero_add, Nat.add_zero]))
/-! ### data -/
def TupAt (H : Hp) (a : Addr) (p : Int × Int) : Prop := H a = some (.tup [.int p.1, .int p.2])
def LotAt (H : Hp) (l : Addr) (lot : List (Int × Int)) : Prop := ∃ as : List Addr, H l = some (.lst (as.map V.ref)) ∧ Paired (TupAt H) as lot
def IntsAt (H : Hp) (l : Addr) (ns : List Int) : Prop := H l = some (.lst (ns.map V.int))
def RecOk (w : Int) (p : Int × Int) : Prop := 0 ≤ p.1 ∧ p.1 < w ∧ 1 ≤ p.2 ∧ p.2 ≤ 10 ^ 31
structure RingOk (w : Int) (lot : List (Int × Int)) : Prop where
  w1 : 1 ≤ w
  w2 : w ≤ 10 ^ 30
  n1 : 1 ≤ lot.length
  n2 : lot.length ≤ 30
  rc : ∀ p ∈ lot, RecOk w p
/-- an order of n records: each index once -/
structure OrdOk (n : Nat) (ns : List Int) : Prop where
  len : ns.length = n
  rng : ∀ x ∈ ns, 0 ≤ x ∧ x < n
  nd : ns.Nodup
theorem TupAt.same {H H' : Hp} {a : Addr} {p : Int × Int} (h : TupAt H a p) (k : Same H H') : TupAt H' a p := k _ _ h
theorem LotAt.same {H H' : Hp} {a : Addr} {lot : List (Int × Int)} (h : LotAt H a lot) (k : Same H H') : LotAt H' a lot := by
  obtain ⟨as, e, p⟩ := h
  exact ⟨as, k _ _ e, Paired.mapP p fun _ _ q => q.same k⟩
theorem IntsAt.same {H H' : Hp} {a : Addr} {ns : List Int} (h : IntsAt H a ns) (k : Same H H') : IntsAt H' a ns := k _ _ h
theorem paired_get {α β : Type} {F : α → β → Prop} : ∀ {as : List α} {bs : List β} {i : Nat} {b : β}, Paired F as bs → bs[i]? = some b → ∃ a, as[i]? = some a ∧ F a b
  | _, _, _, _, .nil, h => by simp at h
  | _, _, 0, _, .cons r t, h => ⟨_, rfl, by
    have e := Option.some.inj h
    rw [← e]
    exact r⟩
  | _, _, i + 1, b, .cons r t, h => paired_get (i := i) (b := b) t h
theorem paired_len {α β : Type} {F : α → β → Prop} : ∀ {as : List α} {bs : List β}, Paired F as bs → as.length = bs.length
  | _, _, .nil => rfl
  | _, _, .cons _ t => congrArg Nat.succ (paired_len t)
theorem LotAt.get {H : Hp} {l : Addr} {lot : List (Int × Int)} {i : Nat} {p : Int × Int} (h : LotAt H l lot) (e : lot[i]? = some p) : ∃ (xs : List V) (a : Addr), H l = some (.lst xs) ∧ xs[i]? = some (.ref a) ∧ TupAt H a p := by
  obtain ⟨as, q, r⟩ := h
  obtain ⟨a, h1, h2⟩ := paired_get r e
  exact ⟨_, a, q, by rw [List.getElem?_map, h1]; rfl, h2⟩
theorem LotAt.seq {H : Hp} {l : Addr} {lot : List (Int × Int)} (h : LotAt H l lot) : ∃ xs : List V, H l = some (.lst xs) ∧ xs.length = lot.length := by
  obtain ⟨as, q, r⟩ := h
  exact ⟨_, q, by rw [List.length_map]; exact paired_len r⟩
section
variable {P : Program} {w : World} {K : PySem.W.Frag} {mg : Str → Option Value} {base : Heap}
/-! ### the checks -/
def spIsInt : Sp := fun vs H Q _ => ∃ i : Int, vs = [.int i] ∧ Q (.bl true) H
theorem ok_is_integer (T : Tx K mg) : FnOk P w K mg base CX0 1 T.a_is_integer T.d_is_integer P_is_integer spIsInt := by
  refine T.p_is_integer.fn.ok sc_is_integer (fun vs H Q E h => ?_) (fun cdv A outer s H vs Q E hr h => ?_)
  · obtain ⟨i, rfl, _⟩ := h
    rfl
  · obtain ⟨i, rfl, k⟩ := h
    refine ⟨_, (pss_one (ps_ret (pe_and (pe_callB call_isi (by rfl) T.n_isinstance (by rfl) (pa_cons (pv 0) (pa_cons (pe_bltn (v := .ty "int") (u := .type "int") (by rfl) T.n_int (by rfl) rfl) pa_nil))) (pe_one (pe_not (pe_callB call_isi (by rfl) T.n_isinstance (by rfl) (pa_cons (pv 0) (pa_cons (pe_bltn (v := .ty "bool") (u := .type "bool") (by rfl) T.n_bool (by rfl) rfl) pa_nil)))))))), ?_⟩
    repeat walk_at "rs"
    refine ⟨.int i, .ty "int", .type "int", .type "int", true, rfl, .ty "int", .base (.int i), rfl, ?_⟩
    repeat walk_at "rs"
    refine ⟨.int i, .ty "bool", .type "int", .type "bool", false, rfl, .ty "bool", .base (.int i), rfl, ?_⟩
    repeat walk_at "rs"
    exact k
def spBetween : Sp := fun vs H Q _ => ∃ v lo hi : Int, vs = [.int v, .int lo, .int hi] ∧ lo ≤ v ∧ v ≤ hi ∧ Q (.bl true) H
theorem ok_is_between (T : Tx K mg) : FnOk P w K mg base CX0 2 T.a_is_between T.d_is_between P_is_between spBetween := by
  refine T.p_is_between.fn.ok sc_is_between (fun vs H Q E h => ?_) (fun cdv A outer s H vs Q E hr h => ?_)
  · obtain ⟨v, lo, hi, rfl, _⟩ := h
    rfl
  · obtain ⟨v, lo, hi, rfl, h1, h2, k⟩ := h
    refine ⟨_, (pss_one (ps_ret (pe_and (pe_call (ok_is_integer T) (hr.mono (by decide)) (by rfl) T.p_is_integer.g T.p_is_integer.fn.kp T.p_is_integer.b .nil pass0 (pa_cons (pv 0) pa_nil)) (pe_one (pe_chain op_le op_le (pv 1) (pv 0) (pv 2)))))), ?_⟩
    repeat walk_at "rs"
    refine ⟨v, rfl, ?_⟩
    repeat walk_at "rs"
    refine iteT' (decide_eq_true h1) ?_
    repeat walk_at "rs"
    rw [decide_eq_true h2]
    exact k
def spIsList (K : PySem.W.Frag) : Sp := fun vs H Q _ => ∃ (l : Addr) (xs : List V) (lo hi : Int), vs = [.ref l, .int lo, .int hi] ∧ SqL K H l xs ∧ lo ≤ xs.length ∧ xs.length ≤ hi ∧ Q (.bl true) H
theorem ok_is_list (T : Tx K mg) : FnOk P w K mg base CX0 1 T.a_is_list T.d_is_list P_is_list (spIsList K) := by
  refine T.p_is_list.fn.ok sc_is_list (fun vs H Q E h => ?_) (fun cdv A outer s H vs Q E hr h => ?_)
  · obtain ⟨l, xs, lo, hi, rfl, _⟩ := h
    rfl
  · obtain ⟨l, xs, lo, hi, rfl, hs, h1, h2, k⟩ := h
    refine ⟨_, (pss_one (ps_ret (pe_and (pe_cmpR op_eqTy (pe_callTy call_type1 (by rfl) T.n_type (by rfl) (pa_cons (pv 0) pa_nil)) (pe_bltn (v := .ty "list") (u := .type "list") (by rfl) T.n_list (by rfl) rfl) (nomark _)) (pe_one (pe_chain op_le op_le (pv 1) (pe_callB call_len2 (by rfl) T.n_len (by rfl) (pa_cons (pv 0) pa_nil)) (pv 2)))))), ?_⟩
    repeat walk_at "rs"
    refine ⟨.ref l, "list", rfl, .lst hs, ?_⟩
    repeat walk_at "rs"
    refine r_tyS (.inl rfl) ?_
    repeat walk_at "rs"
    refine r_len2 (.inl hs) ?_
    repeat walk_at "rs"
    refine iteT' (decide_eq_true h1) ?_
    repeat walk_at "rs"
    rw [decide_eq_true h2]
    exact k
def spIsMark : Sp := fun vs H Q _ => ∃ m v : Int, vs = [.int m, .int v] ∧ 0 ≤ v ∧ v < m ∧ Q (.bl true) H
theorem ok_is_mark (T : Tx K mg) : FnOk P w K mg base CX0 3 T.a_is_mark T.d_is_mark P_is_mark spIsMark := by
  refine T.p_is_mark.fn.ok sc_is_mark (fun vs H Q E h => ?_) (fun cdv A outer s H vs Q E hr h => ?_)
  · obtain ⟨m, v, rfl, _⟩ := h
    rfl
  · obtain ⟨m, v, rfl, h1, h2, k⟩ := h
    refine ⟨_, (pss_one (ps_ret (pe_call (ok_is_between T) (hr.mono (by decide)) (by rfl) T.p_is_between.g T.p_is_between.fn.kp T.p_is_between.b .nil pass0 (pa_cons (pv 1) (pa_cons pe_int (pa_cons (pe_op op_sub (pv 0) pe_int) pa_nil)))))), ?_⟩
    repeat walk_at "rs"
    exact ⟨v, 0, m - 1, rfl, h1, by omega, k⟩
def spIsRec : Sp := fun vs H Q _ => ∃ (m : Int) (a : Addr) (p : Int × Int), vs = [.int m, .ref a] ∧ TupAt H a p ∧ RecOk m p ∧ Q (.bl true) H
theorem ok_is_record (T : Tx K mg) : FnOk P w K mg base CX0 4 T.a_is_record T.d_is_record P_is_record spIsRec := by
  refine T.p_is_record.fn.ok sc_is_record (fun vs H Q E h => ?_) (fun cdv A outer s H vs Q E hr h => ?_)
  · obtain ⟨m, a, p, rfl, _⟩ := h
    rfl
  · obtain ⟨m, a, p, rfl, ha, ⟨r1, r2, r3, r4⟩, k⟩ := h
    refine ⟨_, (pss_cons (ps_if (pw_or (pt_cmpR (op_neTy (hu64 hr)) (pe_callTy call_type1 (by rfl) T.n_type (by rfl) (pa_cons (pv 1) pa_nil)) (pe_bltn (v := .ty "tuple") (u := .type "tuple") (by rfl) T.n_tuple (by rfl) rfl) (nomark _)) (pw_or1 (pt_cmpR op_ne (pe_callB call_len2 (by rfl) T.n_len (by rfl) (pa_cons (pv 1) pa_nil)) pe_int (nomark _)))).pt (pss_one (ps_ret pe_bl)) pss_nil)
      (pss_cons (ps_asg (pv 1) (pg_tup (n := 2) rfl (pgs_cons (pg_name (i := 2) sc_is_record.nd rfl (.inl rfl)) (pgs_cons (pg_name (i := 3) sc_is_record.nd rfl (.inl rfl)) pgs_nil))))
      (pss_one (ps_ret (pe_and (pe_call (ok_is_mark T) (hr.mono (by decide)) (by rfl) T.p_is_mark.g T.p_is_mark.fn.kp T.p_is_mark.b .nil pass0 (pa_cons (pv 0) (pa_cons (pv 2) pa_nil))) (pe_one (pe_call (ok_is_between T) (hr.mono (by decide)) (by rfl) T.p_is_between.g T.p_is_between.fn.kp T.p_is_between.b .nil pass0 (pa_cons (pv 3) (pa_cons pe_int (pa_cons (pe_glob (v := .int (10 ^ 31)) rfl T.c_MOST_LENGTH ⟨_, rfl⟩) pa_nil)))))))))), ?_⟩
    repeat walk_at "rs"
    refine ⟨.ref a, "tuple", rfl, .tup (ste ha), ?_⟩
    repeat walk_at "rs"
    refine r_tyS (.inr rfl) ?_
    repeat walk_at "rs"
    refine r_len2 (.inr (ste ha)) ?_
    repeat walk_at "rs"
    refine iteF' rfl ?_
    repeat walk_at "rs"
    refine r_gtup (ste ha) rfl ?_
    repeat walk_at "rs"
    refine ⟨m, p.1, rfl, r1, r2, ?_⟩
    repeat walk_at "rs"
    exact ⟨p.2, 1, 10 ^ 31, rfl, r3, r4, k⟩
def spChkMarks : Sp := fun vs H Q _ => ∃ m : Int, vs = [.int m] ∧ 1 ≤ m ∧ m ≤ 10 ^ 30 ∧ Q .non H
theorem ok_check_marks (T : Tx K mg) : FnOk P w K mg base CX0 3 T.a_check_marks T.d_check_marks P_check_marks spChkMarks := by
  refine T.p_check_marks.fn.ok sc_check_marks (fun vs H Q E h => ?_) (fun cdv A outer s H vs Q E hr h => ?_)
  · obtain ⟨m, rfl, _⟩ := h
    rfl
  · obtain ⟨m, rfl, h1, h2, k⟩ := h
    refine ⟨_, (pss_one (ps_if (pt_not (pt_val (pe_call (ok_is_between T) (hr.mono (by decide)) (by rfl) T.p_is_between.g T.p_is_between.fn.kp T.p_is_between.b .nil pass0 (pa_cons (pv 0) (pa_cons pe_int (pa_cons (pe_glob (v := .int (10 ^ 30)) rfl T.c_MOST_MARKS ⟨_, rfl⟩) pa_nil)))))) (pss_one ps_never) pss_nil)), ?_⟩
    repeat walk_at "rs"
    refine ⟨m, 1, 10 ^ 30, rfl, h1, h2, ?_⟩
    repeat walk_at "rs"
    exact k
def spChkMark : Sp := fun vs H Q _ => ∃ m v : Int, vs = [.int m, .int v] ∧ 0 ≤ v ∧ v < m ∧ Q .non H
theorem ok_check_mark (T : Tx K mg) : FnOk P w K mg base CX0 4 T.a_check_mark T.d_check_mark P_check_mark spChkMark := by
  refine T.p_check_mark.fn.ok sc_check_mark (fun vs H Q E h => ?_) (fun cdv A outer s H vs Q E hr h => ?_)
  · obtain ⟨m, v, rfl, _⟩ := h
    rfl
  · obtain ⟨m, v, rfl, h1, h2, k⟩ := h
    refine ⟨_, (pss_one (ps_if (pt_not (pt_val (pe_call (ok_is_mark T) (hr.mono (by decide)) (by rfl) T.p_is_mark.g T.p_is_mark.fn.kp T.p_is_mark.b .nil pass0 (pa_cons (pv 0) (pa_cons (pv 1) pa_nil))))) (pss_one ps_never) pss_nil)), ?_⟩
    repeat walk_at "rs"
    refine ⟨m, v, rfl, h1, h2, ?_⟩
    repeat walk_at "rs"
    exact k
def spChkInt : Sp := fun vs H Q _ => ∃ v : Int, vs = [.int v] ∧ Q .non H
theorem ok_check_integer (T : Tx K mg) : FnOk P w K mg base CX0 2 T.a_check_integer T.d_check_integer P_check_integer spChkInt := by
  refine T.p_check_integer.fn.ok sc_check_integer (fun vs H Q E h => ?_) (fun cdv A outer s H vs Q E hr h => ?_)
  · obtain ⟨v, rfl, _⟩ := h
    rfl
  · obtain ⟨v, rfl, k⟩ := h
    refine ⟨_, (pss_one (ps_if (pt_not (pt_val (pe_call (ok_is_integer T) (hr.mono (by decide)) (by rfl) T.p_is_integer.g T.p_is_integer.fn.kp T.p_is_integer.b .nil pass0 (pa_cons (pv 0) pa_nil)))) (pss_one ps_never) pss_nil)), ?_⟩
    repeat walk_at "rs"
    refine ⟨v, rfl, ?_⟩
    repeat walk_at "rs"
    exact k
def spEnd : Sp := fun vs H Q _ => ∃ (m : Int) (a : Addr) (p : Int × Int), vs = [.int m, .ref a] ∧ TupAt H a p ∧ 1 ≤ m ∧ Q (.int ((p.1 + p.2) % m)) H
theorem ok_end_of (T : Tx K mg) : FnOk P w K mg base CX0 1 T.a_end_of T.d_end_of P_end_of spEnd := by
  refine T.p_end_of.fn.ok sc_end_of (fun vs H Q E h => ?_) (fun cdv A outer s H vs Q E hr h => ?_)
  · obtain ⟨m, a, p, rfl, _⟩ := h
    rfl
  · obtain ⟨m, a, p, rfl, ha, h1, k⟩ := h
    refine ⟨_, (pss_cons (ps_asg (pv 1) (pg_tup (n := 2) rfl (pgs_cons (pg_name (i := 2) sc_end_of.nd rfl (.inl rfl)) (pgs_cons (pg_name (i := 3) sc_end_of.nd rfl (.inl rfl)) pgs_nil))))
      (pss_one (ps_ret (pe_op op_mod (pe_op op_add (pv 2) (pv 3)) (pv 0))))), ?_⟩
    repeat walk_at "rs"
    refine r_gtup (ste ha) rfl ?_
    repeat walk_at "rs"
    refine r_I (by omega) ?_
    exact k
def spWait : Sp := fun vs H Q _ => ∃ (m : Int) (a b : Addr) (p q : Int × Int), vs = [.int m, .ref a, .ref b] ∧ TupAt H a p ∧ TupAt H b q ∧ 1 ≤ m ∧ Q (.int ((q.1 - (p.1 + p.2) % m) % m)) H
end
end R04
namespace R04
open PySem PySem.Spec PyProof.Rows L2 Rg
local macro_rules | `(tactic| walk_at "rs") => `(tactic| (first
  | with_reducible refine Rg.r_seq ?_ | with_reducible refine Rg.r_asg ?_ | with_reducible refine Rg.r_name ?_ | with_reducible refine Rg.r_drop ?_ | with_reducible refine Rg.r_ret ?_ | with_reducible refine Rg.r_next ?_
  | refine Rg.r_var rfl ?_ | with_reducible refine Rg.r_c ?_ | with_reducible refine Rg.r_op ?_ | with_reducible refine Rg.r_un ?_ | with_reducible refine Rg.r_rU ?_ | with_reducible refine Rg.r_I0 ?_
  | with_reducible refine Rg.r_eqI ?_ | with_reducible refine Rg.r_neI ?_ | with_reducible refine Rg.r_test ?_ | with_reducible refine Rg.r_B ?_ | with_reducible refine Rg.r_bl ?_ | with_reducible refine Rg.r_not ?_ | with_reducible refine Rg.r_and ?_ | with_reducible refine Rg.r_or ?_
  | with_reducible refine Rg.r_andV ?_ | with_reducible refine Rg.r_orV ?_ | with_reducible refine Rg.r_notV ?_ | with_reducible refine Rg.r_if ?_ | with_reducible refine Rg.r_ifE ?_ | with_reducible refine Rg.r_chain ?_
  | with_reducible refine Rg.r_cb ?_ | with_reducible refine Rg.r_call ?_ | with_reducible refine Rg.r_nil ?_ | with_reducible refine Rg.r_cons ?_ | with_reducible refine Rg.r_lst ?_ | with_reducible refine Rg.r_tup ?_ | with_reducible refine Rg.r_sl ?_ | with_reducible refine Rg.r_noP ?_ | with_reducible refine Rg.r_part ?_ | with_reducible refine Rg.r_int ?_
  | with_reducible refine Rg.r_intI ?_ | with_reducible refine Rg.r_intB ?_ | with_reducible refine Rg.r_abs2 ?_ | with_reducible refine Rg.r_mx2 ?_ | with_reducible refine Rg.r_mn2 ?_ | with_reducible refine Rg.r_sub ?_ | with_reducible refine Rg.r_par ?_ | with_reducible refine Rg.r_par2 ?_ | with_reducible refine Rg.r_bm ?_
  | with_reducible refine Rg.r_gcons ?_ | with_reducible refine Rg.r_gnil ?_ | refine Rg.r_aug rfl ?_ | with_reducible refine Rg.r_ip ?_ | with_reducible refine iteT ?_ | with_reducible refine iteF ?_
  | with_reducible refine Rg.r_par3 ?_ | with_reducible refine Rg.r_par3b ?_ | with_reducible refine Rg.r_kw ?_ | with_reducible refine Rg.r_rev0 ?_ | with_reducible refine Rg.r_revL ?_
  | with_reducible refine Rg.r_for ?_ | with_reducible refine Rg.r_lc ?_ | with_reducible refine Rg.r_ilist ?_ | with_reducible refine Rg.r_ienum ?_ | with_reducible refine Rg.r_izip ?_ | with_reducible refine Rg.r_irng1 ?_ | with_reducible refine Rg.r_irng2 ?_))
local macro_rules | `(tactic| walk_at "nm") => `(tactic| (try simp only [L2.start, List.map_cons, List.map_nil, List.length_cons, List.length_nil, List.replicate_succ, List.replicate_zero, List.cons_append, List.nil_append, List.set_cons_succ, List.set_cons_zero, Nat.reduceAdd, Nat.reduceSub, Nat.zero_add, Nat.add_zero]))
/-! ### the mathematics of the mirror -/
def nthP (lot : List (Int × Int)) (k : Int) : Int × Int := lot.getD k.toNat (0, 0)
def waitP (w : Int) (p q : Int × Int) : Int := (q.1 - (p.1 + p.2) % w) % w
def waitsF (w : Int) (lot : List (Int × Int)) (ns : List Int) : List Int := (ns.zip (ns.drop 1 ++ ns.take 1)).map fun x => waitP w (nthP lot x.1) (nthP lot x.2)
def stepB (w : Int) (lot : List (Int × Int)) (m : Int) (s : List Int × Int) (k : Int) : List Int × Int :=
  (s.1 ++ [s.2 + ((nthP lot k).1 - m - s.2) % w], s.2 + ((nthP lot k).1 - m - s.2) % w + (nthP lot k).2)
def beginsF (w : Int) (lot : List (Int × Int)) (m : Int) (ns : List Int) : List Int × Int := ns.foldl (stepB w lot m) ([], 0)
def movedF (w by_ : Int) (lot : List (Int × Int)) : List (Int × Int) := lot.map fun p => ((p.1 + by_) % w, p.2)
theorem take_one_more {α : Type} {l : List α} {i : Nat} {x : α} (h : l[i]? = some x) : l.take (i + 1) = l.take i ++ [x] := by
  rw [List.take_add_one, h]
  rfl
theorem beginsF_more {w m : Int} {lot : List (Int × Int)} {ns : List Int} {i : Nat} {k : Int} (h : ns[i]? = some k) : beginsF w lot m (ns.take (i + 1)) = stepB w lot m (beginsF w lot m (ns.take i)) k := by
  unfold beginsF
  rw [take_one_more h, List.foldl_append]
  rfl
theorem beginsF_len (w m : Int) (lot : List (Int × Int)) (ns : List Int) : (beginsF w lot m ns).1.length = ns.length := by
  have go : ∀ (l : List Int) (s : List Int × Int), (l.foldl (stepB w lot m) s).1.length = s.1.length + l.length := by
    intro l
    induction l with
    | nil => intro s; rfl
    | cons k l ih =>
      intro s
      rw [List.foldl_cons, ih]
      show (s.1 ++ [_]).length + l.length = s.1.length + (l.length + 1)
      rw [List.length_append, List.length_singleton]
      omega
  have h := go ns ([], 0)
  rw [show (([], 0) : List Int × Int).1.length = 0 from rfl] at h
  unfold beginsF
  omega
theorem LotAt.at {H : Hp} {l : Addr} {lot : List (Int × Int)} {k : Int} (h : LotAt H l lot) (h0 : 0 ≤ k) (h1 : k < lot.length) : ∃ (xs : List V) (a : Addr), H l = some (.lst xs) ∧ atI xs k = some (.ref a) ∧ TupAt H a (nthP lot k) := by
  have hj : k.toNat < lot.length := by omega
  have e : lot[k.toNat]? = some (nthP lot k) := by
    unfold nthP
    rw [List.getElem?_eq_getElem hj, List.getD_eq_getElem?_getD, List.getElem?_eq_getElem hj]
    rfl
  obtain ⟨xs, a, q, r, t⟩ := h.get e
  refine ⟨xs, a, q, ?_, t⟩
  have ek : k = ((k.toNat : Nat) : Int) := by omega
  rw [ek]
  exact atI_nat r
theorem ints_get {ns : List Int} {i : Nat} {x : V} (h : (ns.map V.int)[i]? = some x) : ∃ k, ns[i]? = some k ∧ x = .int k := by
  rw [List.getElem?_map] at h
  cases e : ns[i]? with
  | none =>
    rw [e] at h
    cases h
  | some k =>
    rw [e] at h
    exact ⟨k, rfl, (Option.some.inj h).symm⟩
theorem ints_at {ns : List Int} {i : Nat} {k : Int} (h : ns[i]? = some k) : atI (ns.map V.int) (i : Int) = some (.int k) := atI_nat (by rw [List.getElem?_map, h]; rfl)
theorem cut_take (xs : List V) (n : Nat) : cutV xs none (some (n : Int)) = xs.take n := by
  unfold cutV
  rw [show HT.sIx xs.length 0 none = 0 from rfl, HT.sIx_nat, List.drop_zero, Nat.sub_zero]
  rcases Nat.le_total n xs.length with h | h
  · rw [Nat.min_eq_left h]
  · rw [Nat.min_eq_right h, List.take_of_length_le h, List.take_of_length_le (Nat.le_refl _)]
theorem cut_drop (xs : List V) (n : Nat) : cutV xs (some (n : Int)) none = xs.drop n := by
  unfold cutV
  rw [show HT.sIx xs.length xs.length none = xs.length from rfl, HT.sIx_nat]
  rcases Nat.le_total n xs.length with h | h
  · rw [Nat.min_eq_left h]
    exact List.take_of_length_le (by rw [List.length_drop]; omega)
  · rw [Nat.min_eq_right h, Nat.sub_self, List.take_zero, List.drop_of_length_le h]
theorem all_flat (ns : List Int) : (ns.map V.int).all flatV = true := by
  rw [List.all_map]
  exact List.all_eq_true.mpr fun _ _ => rfl
theorem inV_ints (x : Int) (ns : List Int) : inV (.int x) (ns.map V.int) = decide (x ∈ ns) := by
  induction ns with
  | nil => rfl
  | cons a r ih =>
    unfold inV at ih ⊢
    rw [List.map_cons, List.any_cons, ih]
    show ((a == x) || decide (x ∈ r)) = decide (x ∈ a :: r)
    by_cases h : a = x
    · subst h
      simp
    · have h2 : ¬ x = a := fun e => h e.symm
      simp [h, h2]
section
variable {P : Program} {w : World} {K : PySem.W.Frag} {mg : Str → Option Value} {base : Heap}
def spNewIx : Sp := fun vs H Q _ => ∃ (m : Int) (l : Addr) (ns : List Int) (i : Nat) (x : Int), vs = [.int m, .ref l, .int (i : Int)] ∧ IntsAt H l ns ∧ ns[i]? = some x ∧ 0 ≤ x ∧ x < m ∧ x ∉ ns.take i ∧
  ∀ H', Same H H' → Q (.bl true) H'
def spChkRing : Sp := fun vs H Q _ => ∃ (m : Int) (l : Addr) (lot : List (Int × Int)), vs = [.int m, .ref l] ∧ LotAt H l lot ∧ RingOk m lot ∧ ∀ H', Same H H' → Q .non H'
theorem ok_check_ring (T : Tx K mg) : FnOk P w K mg base CX0 5 T.a_check_ring T.d_check_ring P_check_ring spChkRing := by
  refine T.p_check_ring.fn.ok sc_check_ring (fun vs H Q E h => ?_) (fun cdv A outer s H vs Q E hr h => ?_)
  · obtain ⟨m, l, lot, rfl, _⟩ := h
    rfl
  · obtain ⟨m, l, lot, rfl, hl, R, k⟩ := h
    obtain ⟨xs, hx, hn⟩ := hl.seq
    have n1 := R.n1
    have n2 := R.n2
    refine ⟨_, (pss_cons (ps_expr (pe_call (ok_check_marks T) (hr.mono (by decide)) (by rfl) T.p_check_marks.g T.p_check_marks.fn.kp T.p_check_marks.b .nil pass0 (pa_cons (pv 0) pa_nil)))
      (pss_cons (ps_if (pt_not (pt_val (pe_call (ok_is_list T) (hr.mono (by decide)) (by rfl) T.p_is_list.g T.p_is_list.fn.kp T.p_is_list.b .nil pass0 (pa_cons (pv 1) (pa_cons pe_int (pa_cons (pe_glob (v := .int (30)) rfl T.c_MOST_RECORDS ⟨_, rfl⟩) pa_nil)))))) (pss_one ps_never) pss_nil)
      (pss_one (ps_for PassesOwn.never rfl (pi_enum (by rfl) T.n_enumerate (pa_cons (pv 1) pa_nil)) (pg_tup (n := 2) rfl (pgs_cons (pg_name (i := 2) sc_check_ring.nd rfl (.inl rfl)) (pgs_cons (pg_name (i := 3) sc_check_ring.nd rfl (.inl rfl)) pgs_nil))) (pss_one (ps_if (pt_not (pt_val (pe_call (ok_is_record T) (hr.mono (by decide)) (by rfl) T.p_is_record.g T.p_is_record.fn.kp T.p_is_record.b .nil pass0 (pa_cons (pv 0) (pa_cons (pv 3) pa_nil))))) (pss_one ps_never) pss_nil)))))), ?_⟩
    repeat walk_at "rs"
    refine ⟨m, rfl, R.w1, R.w2, ?_⟩
    repeat walk_at "rs"
    refine ⟨l, xs, 1, 30, rfl, sqe hx, by omega, by omega, ?_⟩
    repeat walk_at "rs"
    refine ⟨l, xs, rfl, sqe hx, ?_⟩
    refine for_gen xs.length (fun i σ H' => ∃ y2 y3, σ = [some (.int m), some (.ref l), y2, y3] ∧ Same H H') ⟨none, none, rfl, Same.refl H⟩ ?_ ?_ ?_ ?_
    · rintro σ H' ⟨y2, y3, rfl, sm⟩
      exact ⟨xs, sqe (sm _ _ hx), Nat.le_refl _⟩
    · rintro i σ H' hi ⟨y2, y3, rfl, sm⟩
      exact go_enum (sqe (sm _ _ hx)) hi
    · rintro i σ H1 x H2 hi ⟨y2, y3, rfl, sm⟩ ⟨T1, v, rfl, nT, rfl, f⟩
      have gv := f xs (sqe (sm _ _ hx))
      have hi2 : i < lot.length := by omega
      obtain ⟨xs2, a, hx2, g2, ta⟩ := (hl.same sm).get (List.getElem?_eq_getElem hi2)
      have exs : xs2 = xs := by
        have e := hx2.symm.trans (sm _ _ hx)
        injection e with e
        injection e
      subst exs
      have ev : v = .ref a := Option.some.inj (gv.symm.trans g2)
      subst ev
      have s2 : Same H1 (upd H1 T1 (.tup [.int (i : Nat), .ref a])) := Same.new nT
      refine r_gtup (ste upd_same) rfl ?_
      repeat walk_at "rs"
      refine ⟨m, a, _, rfl, ta.same s2, R.rc _ (List.getElem_mem hi2), ?_⟩
      repeat walk_at "rs"
      exact ⟨_, _, rfl, sm.trans s2⟩
    · rintro σ H' ⟨y2, y3, rfl, sm⟩
      exact k _ sm
def spChkTrip : Sp := fun vs H Q _ => ∃ (l o : Addr) (lot : List (Int × Int)) (ns : List Int), vs = [.ref l, .ref o] ∧ LotAt H l lot ∧ lot.length ≤ 30 ∧ IntsAt H o ns ∧ OrdOk lot.length ns ∧ ∀ H', Same H H' → Q .non H'
theorem nodup_notin {ns : List Int} {i : Nat} {x : Int} (hn : ns.Nodup) (h : ns[i]? = some x) : x ∉ ns.take i := by
  intro hm
  obtain ⟨j, hj, ej⟩ := List.getElem_of_mem hm
  have hj2 : j < i ∧ j < ns.length := by
    rw [List.length_take] at hj
    omega
  rw [List.getElem_take] at ej
  have h2 : ns[j]? = some x := by rw [List.getElem?_eq_getElem hj2.2, ej]
  have e := nd_ix hn h2 h
  omega
def spChkLap : Sp := fun vs H Q _ => ∃ (l o : Addr) (lot : List (Int × Int)) (ns : List Int), vs = [.ref l, .ref o] ∧ LotAt H l lot ∧ lot.length ≤ 30 ∧ IntsAt H o ns ∧ OrdOk lot.length ns ∧ ns[0]? = some 0 ∧ ∀ H', Same H H' → Q .non H'
end
end R04
namespace R04
open PySem PySem.Spec PyProof.Rows L2 Rg
local macro_rules | `(tactic| walk_at "rs") => `(tactic| (first
  | with_reducible refine Rg.r_seq ?_ | with_reducible refine Rg.r_asg ?_ | with_reducible refine Rg.r_name ?_ | with_reducible refine Rg.r_drop ?_ | with_reducible refine Rg.r_ret ?_ | with_reducible refine Rg.r_next ?_
  | refine Rg.r_var rfl ?_ | with_reducible refine Rg.r_c ?_ | with_reducible refine Rg.r_op ?_ | with_reducible refine Rg.r_un ?_ | with_reducible refine Rg.r_rU ?_ | with_reducible refine Rg.r_I0 ?_
  | with_reducible refine Rg.r_eqI ?_ | with_reducible refine Rg.r_neI ?_ | with_reducible refine Rg.r_test ?_ | with_reducible refine Rg.r_B ?_ | with_reducible refine Rg.r_bl ?_ | with_reducible refine Rg.r_not ?_ | with_reducible refine Rg.r_and ?_ | with_reducible refine Rg.r_or ?_
  | with_reducible refine Rg.r_andV ?_ | with_reducible refine Rg.r_orV ?_ | with_reducible refine Rg.r_notV ?_ | with_reducible refine Rg.r_if ?_ | with_reducible refine Rg.r_ifE ?_ | with_reducible refine Rg.r_chain ?_
  | with_reducible refine Rg.r_cb ?_ | with_reducible refine Rg.r_call ?_ | with_reducible refine Rg.r_nil ?_ | with_reducible refine Rg.r_cons ?_ | with_reducible refine Rg.r_lst ?_ | with_reducible refine Rg.r_tup ?_ | with_reducible refine Rg.r_sl ?_ | with_reducible refine Rg.r_noP ?_ | with_reducible refine Rg.r_part ?_ | with_reducible refine Rg.r_int ?_
  | with_reducible refine Rg.r_intI ?_ | with_reducible refine Rg.r_intB ?_ | with_reducible refine Rg.r_abs2 ?_ | with_reducible refine Rg.r_mx2 ?_ | with_reducible refine Rg.r_mn2 ?_ | with_reducible refine Rg.r_sub ?_ | with_reducible refine Rg.r_par ?_ | with_reducible refine Rg.r_par2 ?_ | with_reducible refine Rg.r_bm ?_
  | with_reducible refine Rg.r_gcons ?_ | with_reducible refine Rg.r_gnil ?_ | refine Rg.r_aug rfl ?_ | with_reducible refine Rg.r_ip ?_ | with_reducible refine iteT ?_ | with_reducible refine iteF ?_
  | with_reducible refine Rg.r_par3 ?_ | with_reducible refine Rg.r_par3b ?_ | with_reducible refine Rg.r_kw ?_ | with_reducible refine Rg.r_rev0 ?_ | with_reducible refine Rg.r_revL ?_
  | with_reducible refine Rg.r_for ?_ | with_reducible refine Rg.r_lc ?_ | with_reducible refine Rg.r_ilist ?_ | with_reducible refine Rg.r_ienum ?_ | with_reducible refine Rg.r_izip ?_ | with_reducible refine Rg.r_irng1 ?_ | with_reducible refine Rg.r_irng2 ?_))
local macro_rules | `(tactic| walk_at "nm") => `(tactic| (try simp only [L2.start, List.map_cons, List.map_nil, List.length_cons, List.length_nil, List.replicate_succ, List.replicate_zero, List.cons_append, List.nil_append, List.set_cons_succ, List.set_cons_zero, Nat.reduceAdd, Nat.reduceSub, Nat.zero_add, Nat.add_zero]))
/-- the sum of the lengths -/
def lens (lot : List (Int × Int)) : List Int := lot.map Prod.snd
section
variable {P : Program} {w : World} {K : PySem.W.Frag} {mg : Str → Option Value} {base : Heap}
/-- the item of a read lot -/
theorem lot_item {H : Hp} {l : Addr} {lot : List (Int × Int)} {xs : List V} {i : Nat} {v : V} (hl : LotAt H l lot) (hx : H l = some (.lst xs)) (g : xs[i]? = some v) : ∃ a p, v = .ref a ∧ lot[i]? = some p ∧ TupAt H a p := by
  have hi : i < xs.length := (List.getElem?_eq_some_iff.mp g).1
  obtain ⟨ys, hy, hn⟩ := hl.seq
  have e : ys = xs := by
    have q := hy.symm.trans hx
    injection q with q
    injection q
  subst e
  have hi2 : i < lot.length := by omega
  obtain ⟨zs, a, hz, gz, ta⟩ := hl.get (List.getElem?_eq_getElem hi2)
  have e2 : zs = ys := by
    have q := hz.symm.trans hx
    injection q with q
    injection q
  subst e2
  exact ⟨a, _, Option.some.inj (g.symm.trans gz), List.getElem?_eq_getElem hi2, ta⟩
def spRounds : Sp := fun vs H Q _ => ∃ (m : Int) (l o : Addr) (lot : List (Int × Int)) (ns : List Int), vs = [.int m, .ref l, .ref o] ∧ LotAt H l lot ∧ RingOk m lot ∧ IntsAt H o ns ∧ OrdOk lot.length ns ∧ ns[0]? = some 0 ∧
  ∀ H', Same H H' → Q (.int (((waitsF m lot ns).sum + (lens lot).sum) / m)) H'
def spMoved : Sp := fun vs H Q _ => ∃ (m b : Int) (l : Addr) (lot : List (Int × Int)), vs = [.int m, .ref l, .int b] ∧ LotAt H l lot ∧ RingOk m lot ∧
  ∀ q H', Same H H' → H q = none → LotAt H' q (movedF m b lot) → Q (.ref q) H'
theorem lotPairs {H : Hp} {lot : List (Int × Int)} {acc : List V} (hl : acc.length = lot.length) (h : ∀ (j : Nat) (z : V), acc[j]? = some z → ∃ (p : Int × Int) (a : Addr), lot[j]? = some p ∧ z = V.ref a ∧ TupAt H a p) : ∃ as : List Addr, acc = as.map V.ref ∧ Paired (TupAt H) as lot := by
  induction lot generalizing acc with
  | nil =>
    cases acc with
    | nil => exact ⟨[], rfl, .nil⟩
    | cons v r => cases hl
  | cons p lot ih =>
    cases acc with
    | nil => cases hl
    | cons v r =>
      obtain ⟨p', a, e, rfl, ta⟩ := h 0 v List.getElem?_cons_zero
      have ep : p = p' := Option.some.inj e
      subst ep
      obtain ⟨as, rfl, pr⟩ := ih (acc := r) (by simpa using hl) fun j z g => h (j + 1) z g
      exact ⟨a :: as, rfl, .cons ta pr⟩
theorem ok_moved (T : Tx K mg) : FnOk P w K mg base CX0 6 T.a_moved T.d_moved P_moved spMoved := by
  refine T.p_moved.fn.ok sc_moved (fun vs H Q E h => ?_) (fun cdv A outer s H vs Q E hr h => ?_)
  · obtain ⟨m, b, l, lot, rfl, _⟩ := h
    rfl
  · obtain ⟨m, b, l, lot, rfl, hl, R, k⟩ := h
    have n2 := R.n2
    have w1 := R.w1
    refine ⟨_, (pss_cons (ps_expr (pe_call (ok_check_ring T) (hr.mono (by decide)) (by rfl) T.p_check_ring.g T.p_check_ring.fn.kp T.p_check_ring.b .nil pass0 (pa_cons (pv 0) (pa_cons (pv 1) pa_nil))))
      (pss_cons (ps_expr (pe_call (ok_check_integer T) (hr.mono (by decide)) (by rfl) T.p_check_integer.g T.p_check_integer.fn.kp T.p_check_integer.b .nil pass0 (pa_cons (pv 2) pa_nil)))
      (pss_one (ps_ret (pe_lc (own := [("begin", 3), ("length", 4)]) (tt := tYes) rfl sc_moved.nd (pi_list (pv 1)) (blkOk_by (N := N_moved) (sc := defScope s_moved) (by decide +kernel)) (fun _ _ _ _ _ => by exact (pg_tupK (n := 2) (K := K) rfl rfl (pgs_cons (pg_name (i := 3) sc_moved.nd rfl (.inl rfl)) (pgs_cons (pg_name (i := 4) sc_moved.nd rfl (.inl rfl)) pgs_nil)))) (fun _ _ _ _ _ => pts_nil) (fun _ _ _ _ _ => by exact (pe_tup (pa_cons (pe_op op_mod (pe_op op_add (pv 3) (pv 2)) (pv 0)) (pa_cons (pv 4) pa_nil))))))))), ?_⟩
    repeat walk_at "rs"
    refine ⟨m, l, lot, rfl, hl, R, fun H1 s1 => ?_⟩
    repeat walk_at "rs"
    refine ⟨b, rfl, ?_⟩
    repeat walk_at "rs"
    obtain ⟨xs, hx, hn⟩ := (hl.same s1).seq
    refine ⟨l, rfl, ⟨xs, sqe hx⟩, fun D hD => ?_⟩
    have kD : ∀ (h : Hp) (acc' : List V), Same H1 h → Same H1 (upd h D (.lst acc')) := fun h acc' q => same_keep hD q
    refine lc_gen xs.length (by omega) (fun i h => Same H1 h) (fun i v h => ∃ p a, (movedF m b lot)[i]? = some p ∧ v = V.ref a ∧ TupAt h a p) hD (kD _ _ (Same.refl _)) (fun i h acc acc' _ q => kD _ _ q) ?_ ?_ ?_ ?_ ?_
    · intro h sm
      exact ⟨xs, sqe (sm _ _ hx), Nat.le_refl _⟩
    · intro i h hi sm
      exact go_list (sqe (sm _ _ hx)) hi
    · rintro i h x h' acc Q' hi sm ha ⟨rfl, f1⟩ q
      obtain ⟨a, p, rfl, gp, ta⟩ := lot_item ((hl.same s1).same sm) (sm _ _ hx) (f1 _ (sqe (sm _ _ hx)))
      refine r_gtup (ste ta) rfl ?_
      repeat walk_at "rs"
      refine ⟨rfl, ?_⟩
      repeat walk_at "rs"
      refine r_I (by omega) ?_
      repeat walk_at "rs"
      refine ⟨by show 2 ≤ sizeLine; decide, fun t ht => ?_⟩
      have sT : Same h' (upd h' t (.tup [.int ((p.1 + b) % m), .int p.2])) := Same.new ht
      refine q _ _ (sm.trans sT) (sT _ _ ha) (fun j z _ r => ?_) ⟨((p.1 + b) % m, p.2), t, ?_, rfl, upd_same⟩
      · obtain ⟨p', a', g', e', t'⟩ := r
        exact ⟨p', a', g', e', t'.same sT⟩
      · unfold movedF
        rw [List.getElem?_map, gp]
        rfl
    · rintro i y h acc acc' ha ⟨p, a, g, e, ta⟩
      refine ⟨p, a, g, e, ?_⟩
      have ne : a ≠ D := ne_of ta ha (by intro z; cases z)
      show upd h D _ a = _
      rw [upd_ne ne]
      exact ta
    · intro h acc sm ha hlen hF
      have ml : (movedF m b lot).length = lot.length := by
        unfold movedF
        exact List.length_map _
      obtain ⟨as, rfl, pr⟩ := lotPairs (lot := movedF m b lot) (acc := acc) (by omega) hF
      exact k D h (s1.trans sm) (s1.free hD) ⟨as, ha, pr⟩
def spBegins : Sp := fun vs H Q _ => ∃ (m k0 : Int) (l o : Addr) (lot : List (Int × Int)) (ns : List Int), vs = [.int m, .ref l, .int k0, .ref o] ∧ LotAt H l lot ∧ RingOk m lot ∧ 0 ≤ k0 ∧ k0 < m ∧ IntsAt H o ns ∧ OrdOk lot.length ns ∧
  ∀ q H', Same H H' → H q = none → IntsAt H' q (beginsF m lot k0 ns).1 → Q (.ref q) H'
def spPass : Sp := fun vs H Q _ => ∃ m hd b t : Int, vs = [.int m, .int hd, .int b, .int t] ∧ 1 ≤ m ∧ Q (.int (t + (b - hd - t) % m)) H
end
end R04
namespace R04
open PySem PySem.Spec PyProof.Rows L2 Rg
local macro_rules | `(tactic| walk_at "rs") => `(tactic| (first
  | with_reducible refine Rg.r_seq ?_ | with_reducible refine Rg.r_asg ?_ | with_reducible refine Rg.r_name ?_ | with_reducible refine Rg.r_drop ?_ | with_reducible refine Rg.r_ret ?_ | with_reducible refine Rg.r_next ?_
  | refine Rg.r_var rfl ?_ | with_reducible refine Rg.r_c ?_ | with_reducible refine Rg.r_op ?_ | with_reducible refine Rg.r_un ?_ | with_reducible refine Rg.r_rU ?_ | with_reducible refine Rg.r_I0 ?_
  | with_reducible refine Rg.r_eqI ?_ | with_reducible refine Rg.r_neI ?_ | with_reducible refine Rg.r_test ?_ | with_reducible refine Rg.r_B ?_ | with_reducible refine Rg.r_bl ?_ | with_reducible refine Rg.r_not ?_ | with_reducible refine Rg.r_and ?_ | with_reducible refine Rg.r_or ?_
  | with_reducible refine Rg.r_andV ?_ | with_reducible refine Rg.r_orV ?_ | with_reducible refine Rg.r_notV ?_ | with_reducible refine Rg.r_if ?_ | with_reducible refine Rg.r_ifE ?_ | with_reducible refine Rg.r_chain ?_
  | with_reducible refine Rg.r_cb ?_ | with_reducible refine Rg.r_call ?_ | with_reducible refine Rg.r_nil ?_ | with_reducible refine Rg.r_cons ?_ | with_reducible refine Rg.r_lst ?_ | with_reducible refine Rg.r_tup ?_ | with_reducible refine Rg.r_sl ?_ | with_reducible refine Rg.r_noP ?_ | with_reducible refine Rg.r_part ?_ | with_reducible refine Rg.r_int ?_
  | with_reducible refine Rg.r_intI ?_ | with_reducible refine Rg.r_intB ?_ | with_reducible refine Rg.r_abs2 ?_ | with_reducible refine Rg.r_mx2 ?_ | with_reducible refine Rg.r_mn2 ?_ | with_reducible refine Rg.r_sub ?_ | with_reducible refine Rg.r_par ?_ | with_reducible refine Rg.r_par2 ?_ | with_reducible refine Rg.r_bm ?_
  | with_reducible refine Rg.r_gcons ?_ | with_reducible refine Rg.r_gnil ?_ | refine Rg.r_aug rfl ?_ | with_reducible refine Rg.r_ip ?_ | with_reducible refine iteT ?_ | with_reducible refine iteF ?_
  | with_reducible refine Rg.r_par3 ?_ | with_reducible refine Rg.r_par3b ?_ | with_reducible refine Rg.r_kw ?_ | with_reducible refine Rg.r_rev0 ?_ | with_reducible refine Rg.r_revL ?_
  | with_reducible refine Rg.r_for ?_ | with_reducible refine Rg.r_lc ?_ | with_reducible refine Rg.r_ilist ?_ | with_reducible refine Rg.r_ienum ?_ | with_reducible refine Rg.r_izip ?_ | with_reducible refine Rg.r_irng1 ?_ | with_reducible refine Rg.r_irng2 ?_))
local macro_rules | `(tactic| walk_at "nm") => `(tactic| (try simp only [L2.start, List.map_cons, List.map_nil, List.length_cons, List.length_nil, List.replicate_succ, List.replicate_zero, List.cons_append, List.nil_append, List.set_cons_succ, List.set_cons_zero, Nat.reduceAdd, Nat.reduceSub, Nat.zero_add, Nat.add_zero]))
/-! ### the law's helpers -/
theorem nth_last {ns : List Int} {k : Int} (h : ns.getLast? = some k) : atI (ns.map V.int) (-1) = some (.int k) := by
  cases hn : ns.length with
  | zero =>
    have e : ns = [] := List.eq_nil_of_length_eq_zero hn
    subst e
    cases h
  | succ n =>
    unfold atI ixN
    rw [if_neg (by decide), List.length_map, if_pos (by omega)]
    show (ns.map V.int)[((-1 : Int) + (ns.length : Int)).toNat]? = _
    have e : ((-1 : Int) + (ns.length : Int)).toNat = ns.length - 1 := by omega
    rw [e, List.getElem?_map, ← List.getLast?_eq_getElem?, h]
    rfl
/-- the last begin and the last length are the end -/
theorem begins_last (w m : Int) (lot : List (Int × Int)) {ns : List Int} {k : Int} (h : ns.getLast? = some k) : ∃ b, (beginsF w lot m ns).1.getLast? = some b ∧ b + (nthP lot k).2 = (beginsF w lot m ns).2 := by
  have hl : ns ≠ [] := fun e => by
    subst e
    cases h
  obtain ⟨r, rfl⟩ := List.getLast?_eq_some_iff.mp h
  unfold beginsF
  rw [List.foldl_append]
  refine ⟨_, ?_, rfl⟩
  show (_ ++ [_]).getLast? = _
  rw [List.getLast?_concat]
section
variable {P : Program} {w : World} {K : PySem.W.Frag} {mg : Str → Option Value} {base : Heap}
def spTicks : Sp := fun vs H Q _ => ∃ (m k0 : Int) (l o : Addr) (lot : List (Int × Int)) (ns : List Int), vs = [.int m, .ref l, .int k0, .ref o] ∧ LotAt H l lot ∧ RingOk m lot ∧ 0 ≤ k0 ∧ k0 < m ∧ IntsAt H o ns ∧ OrdOk lot.length ns ∧
  ∀ H', Same H H' → Q (.int (beginsF m lot k0 ns).2) H'
/-- int(cell), int(k): the source is new -/
def spSource : Sp := fun vs H Q _ => ∃ c k : Int, vs = [.int c, .int k] ∧ 0 ≤ k ∧ k < 1000 ∧ ∀ p H', Same H H' → H p = none → Src p 0 H' → Q (.ref p) H'
theorem ok_law_source (T : Tx K mg) : FnOk P w K mg base CX0 1 T.a_law_source T.d_law_source P_law_source spSource := by
  refine T.p_law_source.fn.ok sc_law_source (fun vs H Q E h => ?_) (fun cdv A outer s H vs Q E hr h => ?_)
  · obtain ⟨c, k, rfl, _⟩ := h
    rfl
  · obtain ⟨c, n, rfl, h0, h1, k⟩ := h
    refine ⟨_, (pss_cons (ps_set (i := 2) sc_law_source.nd rfl (.inl rfl) (pe_callB call_abs2 (by rfl) T.n_abs (by rfl) (pa_cons (pv 0) pa_nil)))
      (pss_one (ps_ret (pe_lst (pa_cons (pe_callB (call_mx2 rfl) (by rfl) T.n_max (by rfl) (pa_cons pe_int (pa_cons (pe_op op_sub (pv 2) (pe_op op_powW pe_int pe_int)) pa_nil))) (pa_cons (pe_op op_add (pe_op op_add (pe_op op_mulW (pe_op op_mod (pe_callTy call_intI (by rfl) T.n_int (by rfl) (pa_cons (pv 2) pa_nil)) (pe_op op_add (pe_op op_powW pe_int pe_int) pe_int)) pe_int) (pe_op op_mulW pe_int (pv 1))) (pe_callTy call_intB (by rfl) T.n_int (by rfl) (pa_cons (pe_cmpR op_lt (pv 0) pe_int (nomark _)) pa_nil))) (pa_cons pe_int pa_nil))))))), ?_⟩
    repeat walk_at "rs"
    refine r_I (cpow 18 (by decide) (n := 10) (by decide) (by decide)) ?_
    repeat walk_at "rs"
    refine r_I (cpow 44 (by decide) (n := 10) (by decide) (by decide)) ?_
    repeat walk_at "rs"
    refine r_I (by decide) ?_
    generalize (if c < 0 then -c else c) = g
    have m1 := Int.emod_nonneg g (b := 10 ^ Int.toNat 44 + 31) (by decide)
    have m2 := Int.emod_lt_of_pos g (b := 10 ^ Int.toNat 44 + 31) (by decide)
    generalize g % (10 ^ Int.toNat 44 + 31) = r at m1 m2 ⊢
    have m3 : r < 2 ^ 200 := Int.lt_of_lt_of_le m2 (by decide)
    repeat walk_at "rs"
    refine r_I (wide_mul (a := 200) (b := 10) (by omega) (by decide) (by decide) (by decide) (by decide)) ?_
    repeat walk_at "rs"
    refine r_I (wide_mul (a := 10) (b := 10) (by decide) (by omega) (by decide) (by decide) (by decide)) ?_
    repeat walk_at "rs"
    refine ⟨by show 3 ≤ sizeLine; decide, fun p hp => ?_⟩
    refine k p _ (Same.new hp) hp ⟨_, _, _, upd_same, ?_, ?_, by omega, by omega⟩
    · split <;> omega
    · split <;> omega
def Pm (xs ys : List Int) : Prop := xs.Perm ys
/-- mixed: some arrangement; the source went on -/
def spMixed : Sp := fun vs H Q _ => ∃ (a l : Addr) (N : Nat) (ns : List Int), vs = [.ref a, .ref l] ∧ Src a N H ∧ IntsAt H l ns ∧ a ≠ l ∧ ns.length ≤ 30 ∧ N + 30 < 10 ^ 9 ∧
  ∀ p H' ms, Sx a H H' → Src a (N + 30) H' → H p = none → IntsAt H' p ms → ms.Perm ns → Q (.ref p) H'
theorem perm_erase : ∀ {ns : List Int} {j : Nat} {x : Int}, ns[j]? = some x → (x :: ns.eraseIdx j).Perm ns
  | [], j, x, h => by simp at h
  | a :: r, 0, x, h => by
    have e : a = x := Option.some.inj h
    subst e
    exact List.Perm.refl _
  | a :: r, j + 1, x, h => by
    have ih := perm_erase (ns := r) (j := j) (x := x) h
    exact (List.Perm.swap a x (r.eraseIdx j)).trans (List.Perm.cons a ih)
theorem map_erase : ∀ (ns : List Int) (j : Nat), (ns.map V.int).eraseIdx j = (ns.eraseIdx j).map V.int
  | [], _ => rfl
  | _ :: _, 0 => rfl
  | a :: r, j + 1 => congrArg (List.cons (V.int a)) (map_erase r j)
/-- the word of the loop: what is left and what was found are some arrangement of what came -/
def MixW (a l d f : Addr) (H0 : Hp) (N : Nat) (ns : List Int) (m : Nat) (σ : L2.St) (H : Hp) : Prop := ∃ left fnd : List Int, σ = [some (.ref a), some (.ref l), some (.ref d), some (.ref f)] ∧ IntsAt H d left ∧ IntsAt H f fnd ∧
  left.length = m ∧ (left ++ fnd).Perm ns ∧ Sx a H0 H ∧ Src a (N + fnd.length) H
theorem eqv_ints : ∀ ns ms : List Int, PyData.eqv (.list (ns.map PyData.int)) (.list (ms.map PyData.int)) = decide (ns = ms) := by
  have go : ∀ ns ms : List Int, PyData.eqvAll (ns.map PyData.int) (ms.map PyData.int) = decide (ns = ms) := by
    intro ns
    induction ns with
    | nil =>
      intro ms
      cases ms with
      | nil => simp [PyData.eqvAll]
      | cons b r => simp [PyData.eqvAll]
    | cons a r ih =>
      intro ms
      cases ms with
      | nil => simp [PyData.eqvAll]
      | cons b q =>
        rw [List.map_cons, List.map_cons]
        show (PyData.eqv (.int a) (.int b) && PyData.eqvAll (r.map PyData.int) (q.map PyData.int)) = _
        rw [ih]
        have e : PyData.eqv (.int a) (.int b) = (a == b) := by simp [PyData.eqv]
        rw [e]
        by_cases h : a = b
        · subst h
          simp
        · simp [h]
  intro ns ms
  show PyData.eqv (.list _) (.list _) = _
  rw [← go]
  simp [PyData.eqv]
theorem dp_ints {K : PySem.W.Frag} {H : Hp} {l : Addr} {ns : List Int} (h : SqL K H l (ns.map V.int)) : Dp K H (.ref l) (.list (ns.map PyData.int)) := by
  refine .lst h ?_
  induction ns generalizing l with
  | nil => exact .nil
  | cons a r ih =>
    have go : ∀ qs : List Int, DpAll K H (qs.map V.int) (qs.map PyData.int) := fun qs => by
      induction qs with
      | nil => exact .nil
      | cons b q ih => exact .cons (.int b) ih
    exact go (a :: r)
theorem r_neInts {K : PySem.W.Frag} {H : Hp} {Q : VK} {p q : Addr} {ns ms : List Int} (h1 : SqL K H p (ns.map V.int)) (h2 : SqL K H q (ms.map V.int)) (k : Q (.bl (!decide (ns = ms))) H) : rNeD K (.ref p) (.ref q) H Q :=
  ⟨_, _, dp_ints h1, dp_ints h2, PySem.W.ke_shaped_ints ns, PySem.W.ke_shaped_ints ms, by rw [eqv_ints]; exact k⟩
theorem r_eqInts {K : PySem.W.Frag} {H : Hp} {Q : VK} {p q : Addr} {ns ms : List Int} (h1 : SqL K H p (ns.map V.int)) (h2 : SqL K H q (ms.map V.int)) (k : Q (.bl (decide (ns = ms))) H) : rEqD K (.ref p) (.ref q) H Q :=
  ⟨_, _, dp_ints h1, dp_ints h2, PySem.W.ke_shaped_ints ns, PySem.W.ke_shaped_ints ms, by rw [eqv_ints]; exact k⟩
theorem seqIx {n : Nat} {i : Int} {j : Nat} (e : i = (j : Int)) (h : j < n) : seqIndex? i n = some j := by
  subst e
  have q : ixN n (j : Int) = some j := by
    unfold ixN
    rw [if_pos (Int.natCast_nonneg j), if_pos (by omega), Int.toNat_natCast]
  exact (ixN_seq q).1
end
end R04
namespace R04
open PySem PySem.Spec PyProof.Rows L2 Rg
local macro_rules | `(tactic| walk_at "rs") => `(tactic| (first
  | with_reducible refine Rg.r_seq ?_ | with_reducible refine Rg.r_asg ?_ | with_reducible refine Rg.r_name ?_ | with_reducible refine Rg.r_drop ?_ | with_reducible refine Rg.r_ret ?_ | with_reducible refine Rg.r_next ?_
  | refine Rg.r_var rfl ?_ | with_reducible refine Rg.r_c ?_ | with_reducible refine Rg.r_op ?_ | with_reducible refine Rg.r_un ?_ | with_reducible refine Rg.r_rU ?_ | with_reducible refine Rg.r_I0 ?_
  | with_reducible refine Rg.r_eqI ?_ | with_reducible refine Rg.r_neI ?_ | with_reducible refine Rg.r_test ?_ | with_reducible refine Rg.r_B ?_ | with_reducible refine Rg.r_bl ?_ | with_reducible refine Rg.r_not ?_ | with_reducible refine Rg.r_and ?_ | with_reducible refine Rg.r_or ?_
  | with_reducible refine Rg.r_andV ?_ | with_reducible refine Rg.r_orV ?_ | with_reducible refine Rg.r_notV ?_ | with_reducible refine Rg.r_if ?_ | with_reducible refine Rg.r_ifE ?_ | with_reducible refine Rg.r_chain ?_
  | with_reducible refine Rg.r_cb ?_ | with_reducible refine Rg.r_call ?_ | with_reducible refine Rg.r_nil ?_ | with_reducible refine Rg.r_cons ?_ | with_reducible refine Rg.r_lst ?_ | with_reducible refine Rg.r_tup ?_ | with_reducible refine Rg.r_sl ?_ | with_reducible refine Rg.r_noP ?_ | with_reducible refine Rg.r_part ?_ | with_reducible refine Rg.r_int ?_
  | with_reducible refine Rg.r_intI ?_ | with_reducible refine Rg.r_intB ?_ | with_reducible refine Rg.r_abs2 ?_ | with_reducible refine Rg.r_mx2 ?_ | with_reducible refine Rg.r_mn2 ?_ | with_reducible refine Rg.r_sub ?_ | with_reducible refine Rg.r_par ?_ | with_reducible refine Rg.r_par2 ?_ | with_reducible refine Rg.r_bm ?_
  | with_reducible refine Rg.r_gcons ?_ | with_reducible refine Rg.r_gnil ?_ | refine Rg.r_aug rfl ?_ | with_reducible refine Rg.r_ip ?_ | with_reducible refine iteT ?_ | with_reducible refine iteF ?_
  | with_reducible refine Rg.r_par3 ?_ | with_reducible refine Rg.r_par3b ?_ | with_reducible refine Rg.r_kw ?_ | with_reducible refine Rg.r_rev0 ?_ | with_reducible refine Rg.r_revL ?_
  | with_reducible refine Rg.r_for ?_ | with_reducible refine Rg.r_lc ?_ | with_reducible refine Rg.r_ilist ?_ | with_reducible refine Rg.r_ienum ?_ | with_reducible refine Rg.r_izip ?_ | with_reducible refine Rg.r_irng1 ?_ | with_reducible refine Rg.r_irng2 ?_))
local macro_rules | `(tactic| walk_at "nm") => `(tactic| (try simp only [L2.start, List.map_cons, List.map_nil, List.length_cons, List.length_nil, List.replicate_succ, List.replicate_zero, List.cons_append, List.nil_append, List.set_cons_succ, List.set_cons_zero, Nat.reduceAdd, Nat.reduceSub, Nat.zero_add, Nat.add_zero]))
theorem r_cut {t u : TS} {σ : L2.St} {H : Hp} {nx : L2.St → Hp → Prop} {rt : VK} {bk ct : L2.St → Hp → Prop} (Mid : L2.St → Hp → Prop) (h1 : t ⟨Mid, rt, bk, ct⟩ σ H) (h2 : ∀ σ' H', Mid σ' H' → u ⟨nx, rt, bk, ct⟩ σ' H') : Evl.tCut t u ⟨nx, rt, bk, ct⟩ σ H := ⟨Mid, h1, h2⟩
theorem smallc {c : Int} (h : c.natAbs < 2 ^ 200) : c.natAbs < 2 ^ 8000 := Nat.lt_of_lt_of_le h (Nat.pow_le_pow_right (by decide) (by decide))
def lensO (lot : List (Int × Int)) (ns : List Int) : List Int := ns.map fun k => (nthP lot k).2
theorem after_mod {ns : List Int} {i : Nat} (hi : i < ns.length) : (ns.drop 1 ++ ns.take 1)[i]? = ns[(i + 1) % ns.length]? := by
  by_cases h : i + 1 < ns.length
  · rw [Nat.mod_eq_of_lt h, List.getElem?_append_left (by rw [List.length_drop]; omega), List.getElem?_drop, Nat.add_comm]
  · have e : i + 1 = ns.length := by omega
    rw [e, Nat.mod_self, List.getElem?_append_right (by rw [List.length_drop]; omega), List.length_drop]
    have e2 : i - (ns.length - 1) = 0 := by omega
    rw [e2, List.getElem?_take_of_lt (by decide)]
/-- a lot whose records are of the ring -/
def RecsOk (w : Int) (lot : List (Int × Int)) : Prop := ∀ p ∈ lot, RecOk w p
theorem LotAt.snoc {H : Hp} {l t : Addr} {lot : List (Int × Int)} {p : Int × Int} (h : LotAt H l lot) (nt : H t = none) : ∃ as : List Addr, H l = some (.lst (as.map V.ref)) ∧ as.length = lot.length ∧
    LotAt (upd (upd H t (.tup [.int p.1, .int p.2])) l (.lst (as.map V.ref ++ [.ref t]))) l (lot ++ [p]) := by
  obtain ⟨as, e, pr⟩ := h
  refine ⟨as, e, paired_len pr, as ++ [t], ?_, ?_⟩
  · rw [upd_same, List.map_append]
    rfl
  · have nlt : t ≠ l := fun q => by
      rw [q, e] at nt
      cases nt
    have go : ∀ (bs : List Addr) (qs : List (Int × Int)), Paired (TupAt H) bs qs → Paired (TupAt (upd (upd H t (.tup [.int p.1, .int p.2])) l (.lst (as.map V.ref ++ [.ref t])))) (bs ++ [t]) (qs ++ [p]) := by
      intro bs qs hb
      induction hb with
      | nil => exact .cons (by show upd _ l _ t = _; rw [upd_ne nlt]; exact upd_same) .nil
      | @cons b q bs qs hq hr ih =>
        refine .cons ?_ ih
        have hbl : b ≠ l := ne_of hq e (by intro z; cases z)
        have hbt : b ≠ t := ne_of_none hq nt
        show upd _ l _ b = _
        rw [upd_ne hbl, upd_ne hbt]
        exact hq
    exact go as lot pr
theorem at3 {a b c : V} {r : Int} (h0 : 0 ≤ r) (h1 : r < 3) : atI [a, b, c] r = some a ∨ atI [a, b, c] r = some b ∨ atI [a, b, c] r = some c := by
  rcases (show r = 0 ∨ r = 1 ∨ r = 2 by omega) with rfl | rfl | rfl
  · exact .inl at0
  · exact .inr (.inl at1)
  · exact .inr (.inr at2)
/-- an item of three ints, each within bounds -/
theorem at3b {x y z lo hi : Int} {r : Int} (h0 : 0 ≤ r) (h1 : r < 3) (hx : lo ≤ x ∧ x ≤ hi) (hy : lo ≤ y ∧ y ≤ hi) (hz : lo ≤ z ∧ z ≤ hi) : ∃ v, atI [V.int x, V.int y, V.int z] r = some (.int v) ∧ lo ≤ v ∧ v ≤ hi := by
  rcases at3 (a := V.int x) (b := V.int y) (c := V.int z) h0 h1 with h | h | h
  · exact ⟨x, h, hx⟩
  · exact ⟨y, h, hy⟩
  · exact ⟨z, h, hz⟩
theorem LotAt.sx {H H' : Hp} {a l : Addr} {M : Nat} {lot : List (Int × Int)} (h : LotAt H l lot) (hs : Src a M H) (n : l ≠ a) (k : Sx a H H') : LotAt H' l lot := by
  obtain ⟨as, e, pr⟩ := h
  obtain ⟨x, y, z, ea, _⟩ := hs
  exact ⟨as, k _ _ n e, Paired.mapP pr fun t p q => k _ _ (ne_of q ea (by intro z; cases z)) q⟩
/-- the heap of a turn: what was found, the spots, the source -/
structure FarW (a D F : Addr) (acc : List V) (H0 : Hp) (wd : Int) (fnd : List (Int × Int)) (M : Nat) (H : Hp) : Prop where
  lot : LotAt H F fnd
  sp : H D = some (.lst acc)
  sx : Sx a H0 H
  sr : Src a M H
theorem FarW.draw {a D F : Addr} {acc : List V} {H0 H H' : Hp} {wd : Int} {fnd : List (Int × Int)} {M : Nat} (h : FarW a D F acc H0 wd fnd M H) (nD : D ≠ a) (nF : F ≠ a) (k : Sx a H H') (s : Src a (M + 1) H') : FarW a D F acc H0 wd fnd (M + 1) H' :=
  ⟨h.lot.sx h.sr nF k, k _ _ nD h.sp, h.sx.trans k, s⟩
theorem FarW.same {a D F : Addr} {acc : List V} {H0 H H' : Hp} {wd : Int} {fnd : List (Int × Int)} {M : Nat} (h : FarW a D F acc H0 wd fnd M H) (k : Same H H') : FarW a D F acc H0 wd fnd M H' :=
  ⟨h.lot.same k, k _ _ h.sp, h.sx.trans (Sx.of k), h.sr.same k⟩
theorem FarW.le {a D F : Addr} {acc : List V} {H0 H : Hp} {wd : Int} {fnd : List (Int × Int)} {M M' : Nat} (h : FarW a D F acc H0 wd fnd M H) (k : M ≤ M') : FarW a D F acc H0 wd fnd M' H :=
  ⟨h.lot, h.sp, h.sx, h.sr.le k⟩
theorem OrdOk.perm {n : Nat} {ns ms : List Int} (h : OrdOk n ns) (p : ms.Perm ns) : OrdOk n ms :=
  ⟨p.length_eq.trans h.len, fun x hx => h.rng x (p.mem_iff.mp hx), p.nodup_iff.mpr h.nd⟩
def upI (n : Nat) : List Int := (List.range n).map Int.ofNat
theorem ordok_up (n : Nat) : OrdOk n (upI n) := by
  refine ⟨by unfold upI; rw [List.length_map, List.length_range], fun x hx => ?_, ?_⟩
  · unfold upI at hx
    obtain ⟨i, hi, rfl⟩ := List.mem_map.mp hx
    rw [List.mem_range] at hi
    show 0 ≤ (i : Int) ∧ (i : Int) < n
    omega
  · unfold upI
    refine (List.pairwise_map.mpr ?_)
    exact (List.nodup_range (n := n)).imp fun h e => h (Int.ofNat_inj.mp e)
theorem sum_perm {xs ys : List Int} (h : xs.Perm ys) : xs.sum = ys.sum := by
  induction h with
  | nil => rfl
  | cons x _ ih => rw [List.sum_cons, List.sum_cons, ih]
  | swap x y l =>
    rw [List.sum_cons, List.sum_cons, List.sum_cons, List.sum_cons]
    omega
  | trans _ _ h1 h2 => rw [h1, h2]
theorem r_listRg2 {ta tb : TE} {σ : L2.St} {H : Hp} {Q : VK} (h : ta σ H fun x H1 => tb σ H1 fun y H2 => ∃ i j, x = .int i ∧ y = .int j ∧ RgOk i j ∧ ∀ q, H2 q = none → Q (.ref q) (upd H2 q (.lst (rgV i j)))) : tLstRg (tRg2 ta tb) σ H Q := h
theorem r_rot {K : PySem.W.Frag} {σ : L2.St} {H : Hp} {Q : VK} {ns : List Int} {o : Addr} {c io ic : Nat} (ho : IntsAt H o ns) (hz : ns.length ≤ 30) (hσ : σ[io]? = some (some (.ref o))) (hc : σ[ic]? = some (some (.int (c : Int))))
    (q : ∀ d H', Same H H' → H d = none → IntsAt H' d (ns.drop c ++ ns.take c) → Q (.ref d) H') :
    rSlL K (.ref o) (some (c : Int)) none H fun x H1 => tSl (rSlL K) (tVar io) tNoPart (tPart (tVar ic)) σ H1 fun y H2 => rCatR K x y H2 Q := by
  refine r_slL (sqe ho) fun d1 hd1 => ?_
  rw [cut_drop, ← List.map_drop]
  have t1 : Same H (upd H d1 (.lst ((ns.drop c).map V.int))) := Same.new hd1
  refine ⟨_, hσ, _, hc, (c : Int), rfl, ?_⟩
  refine r_slL (sqe (ho.same t1)) fun d2 hd2 => ?_
  rw [cut_take, ← List.map_take]
  have t2 := Same.new (o := HO.lst ((ns.take c).map V.int)) hd2
  have e1 : (upd (upd H d1 (HO.lst ((ns.drop c).map V.int))) d2 (HO.lst ((ns.take c).map V.int))) d1 = some (.lst ((ns.drop c).map V.int)) := t2 _ _ upd_same
  refine r_catR (sqe e1) (sqe upd_same) (by rw [List.length_map, List.length_map, List.length_drop, List.length_take]; omega) fun d3 hd3 => ?_
  rw [← List.map_append]
  exact q _ _ ((t1.trans t2).trans (Same.new hd3)) ((t1.trans t2).free hd3) upd_same
theorem rgV_up (n : Nat) (h : 1 ≤ n) : rgV 1 (n : Int) = ((upI n).drop 1).map V.int := by
  unfold rgV upI
  have e : ((n : Int) - 1).toNat = n - 1 := by omega
  rw [e]
  refine List.ext_getElem? fun i => ?_
  rw [List.getElem?_map, List.getElem?_map, List.getElem?_drop, List.getElem?_map]
  by_cases h : i < n - 1
  · rw [List.getElem?_range h, List.getElem?_range (by omega)]
    show some (V.int (1 + (i : Int))) = some (V.int (((1 + i : Nat)) : Int))
    congr 2
  · rw [List.getElem?_eq_none (by rw [List.length_range]; omega), List.getElem?_eq_none (by rw [List.length_range]; omega)]
    rfl
theorem up_cons (n : Nat) (h : 1 ≤ n) : upI n = 0 :: (upI n).drop 1 := by
  unfold upI
  cases n with
  | zero => omega
  | succ n =>
    rw [List.range_succ_eq_map]
    rfl
theorem IntsAt.sx {H H' : Hp} {a l : Addr} {ns : List Int} (h : IntsAt H l ns) (n : l ≠ a) (k : Sx a H H') : IntsAt H' l ns := k _ _ n h
/-- the heap while the law looks -/
structure Wd (a l : Addr) (lot : List (Int × Int)) (H0 : Hp) (M : Nat) (H : Hp) : Prop where
  lt : LotAt H l lot
  sx : Sx a H0 H
  sr : Src a M H
theorem Wd.same {a l : Addr} {lot : List (Int × Int)} {H0 H H' : Hp} {M : Nat} (h : Wd a l lot H0 M H) (k : Same H H') : Wd a l lot H0 M H' := ⟨h.lt.same k, h.sx.trans (Sx.of k), h.sr.same k⟩
theorem Wd.draw {a l : Addr} {lot : List (Int × Int)} {H0 H H' : Hp} {M M' : Nat} (h : Wd a l lot H0 M H) (n : l ≠ a) (k : Sx a H H') (s : Src a M' H') : Wd a l lot H0 M' H' := ⟨h.lt.sx h.sr n k, h.sx.trans k, s⟩
theorem Wd.ne {a l p : Addr} {lot : List (Int × Int)} {H0 H : Hp} {M : Nat} (h : Wd a l lot H0 M H) (n : H p = none) : p ≠ a := by
  obtain ⟨_, _, _, q, _⟩ := h.sr
  exact fun e => ne_of_none q n e.symm
theorem at5 {b : Bool} : ∃ v : Int, atI [V.int 5, V.int 30] (if b = true then 1 else 0) = some (.int v) ∧ 1 ≤ v ∧ v ≤ 30 := by
  cases b
  · exact ⟨5, at0, by decide, by decide⟩
  · exact ⟨30, at1, by decide, by decide⟩
/-- nothing that stood has changed but the new source -/
theorem Sx.fresh {s : Addr} {H H1 H' : Hp} (k : Sx s H1 H') (b : Same H H1) (n : H s = none) : Same H H' := fun c o e => k c o (ne_of_none e n) (b c o e)
theorem r_slTake {K : PySem.W.Frag} {H : Hp} {Q : VK} {p : Addr} {ns : List Int} {z : Int} (hs : IntsAt H p ns) (h0 : 0 ≤ z) (h6 : z ≤ 6) (q : ∀ (d : Addr) (ms : List Int), ms.length ≤ 6 → H d = none → Q (.ref d) (upd H d (.lst (ms.map V.int)))) : rSlL K (.ref p) none (some z) H Q := by
  refine r_slL (sqe hs) fun d hd => ?_
  obtain ⟨n, rfl⟩ : ∃ n : Nat, z = n := ⟨z.toNat, by omega⟩
  rw [cut_take, ← List.map_take]
  exact q d _ (by rw [List.length_take]; omega) hd
end R04
namespace R04
open PySem PySem.Spec PyProof.Rows L2 Rg
local macro_rules | `(tactic| walk_at "rs") => `(tactic| (first
  | with_reducible refine Rg.r_seq ?_ | with_reducible refine Rg.r_asg ?_ | with_reducible refine Rg.r_name ?_ | with_reducible refine Rg.r_drop ?_ | with_reducible refine Rg.r_ret ?_ | with_reducible refine Rg.r_next ?_
  | refine Rg.r_var rfl ?_ | with_reducible refine Rg.r_c ?_ | with_reducible refine Rg.r_op ?_ | with_reducible refine Rg.r_un ?_ | with_reducible refine Rg.r_rU ?_ | with_reducible refine Rg.r_I0 ?_
  | with_reducible refine Rg.r_eqI ?_ | with_reducible refine Rg.r_neI ?_ | with_reducible refine Rg.r_test ?_ | with_reducible refine Rg.r_B ?_ | with_reducible refine Rg.r_bl ?_ | with_reducible refine Rg.r_not ?_ | with_reducible refine Rg.r_and ?_ | with_reducible refine Rg.r_or ?_
  | with_reducible refine Rg.r_andV ?_ | with_reducible refine Rg.r_orV ?_ | with_reducible refine Rg.r_notV ?_ | with_reducible refine Rg.r_if ?_ | with_reducible refine Rg.r_ifE ?_ | with_reducible refine Rg.r_chain ?_
  | with_reducible refine Rg.r_cb ?_ | with_reducible refine Rg.r_call ?_ | with_reducible refine Rg.r_nil ?_ | with_reducible refine Rg.r_cons ?_ | with_reducible refine Rg.r_lst ?_ | with_reducible refine Rg.r_tup ?_ | with_reducible refine Rg.r_sl ?_ | with_reducible refine Rg.r_noP ?_ | with_reducible refine Rg.r_part ?_ | with_reducible refine Rg.r_int ?_
  | with_reducible refine Rg.r_intI ?_ | with_reducible refine Rg.r_intB ?_ | with_reducible refine Rg.r_abs2 ?_ | with_reducible refine Rg.r_mx2 ?_ | with_reducible refine Rg.r_mn2 ?_ | with_reducible refine Rg.r_sub ?_ | with_reducible refine Rg.r_par ?_ | with_reducible refine Rg.r_par2 ?_ | with_reducible refine Rg.r_bm ?_
  | with_reducible refine Rg.r_gcons ?_ | with_reducible refine Rg.r_gnil ?_ | refine Rg.r_aug rfl ?_ | with_reducible refine Rg.r_ip ?_ | with_reducible refine iteT ?_ | with_reducible refine iteF ?_
  | with_reducible refine Rg.r_par3 ?_ | with_reducible refine Rg.r_par3b ?_ | with_reducible refine Rg.r_kw ?_ | with_reducible refine Rg.r_rev0 ?_ | with_reducible refine Rg.r_revL ?_
  | with_reducible refine Rg.r_for ?_ | with_reducible refine Rg.r_lc ?_ | with_reducible refine Rg.r_ilist ?_ | with_reducible refine Rg.r_ienum ?_ | with_reducible refine Rg.r_izip ?_ | with_reducible refine Rg.r_irng1 ?_ | with_reducible refine Rg.r_irng2 ?_))
local macro_rules | `(tactic| walk_at "nm") => `(tactic| (try simp only [L2.start, List.map_cons, List.map_nil, List.length_cons, List.length_nil, List.replicate_succ, List.replicate_zero, List.cons_append, List.nil_append, List.set_cons_succ, List.set_cons_zero, Nat.reduceAdd, Nat.reduceSub, Nat.zero_add, Nat.add_zero]))
theorem dp_lot {K : PySem.W.Frag} {H : Hp} {l : Addr} {lot : List (Int × Int)} (h : LotAt H l lot) : Dp K H (.ref l) (lotD lot) := by
  obtain ⟨as, e, pr⟩ := h
  refine .lst (sqe e) ?_
  clear e
  induction pr with
  | nil => exact .nil
  | cons t _ ih => exact .cons (.tup (ste t) (.cons (.int _) (.cons (.int _) .nil))) ih
theorem dp_intsI {K : PySem.W.Frag} {H : Hp} {l : Addr} {ns : List Int} (h : IntsAt H l ns) : Dp K H (.ref l) (intsD ns) := dp_ints (sqe h)
theorem rec_small {w : Int} {p : Int × Int} (hw : w ≤ 10 ^ 30) (h : RecOk w p) : p.1.natAbs < 2 ^ 110 ∧ p.2.natAbs < 2 ^ 110 := by
  obtain ⟨a, b, c, d⟩ := h
  exact ⟨by omega, by omega⟩
theorem nice_lotR {w : Int} {lot : List (Int × Int)} (hw : w ≤ 10 ^ 30) (hn : lot.length ≤ 31) (h : ∀ p ∈ lot, RecOk w p) : Nice (lotD lot) 2 7000 :=
  (nice_lot (n := 110) (fun p hp => rec_small hw (h p hp)) (by decide)).mono (Nat.le_refl _) (Nat.le_trans (Nat.mul_le_mul_right _ hn) (by decide))
theorem eqv_nil (ds : List PyData) : PyData.eqv (.list ds) (.list []) = ds.isEmpty := by
  cases ds with
  | nil => simp [PyData.eqv, PyData.eqvAll]
  | cons d ds => simp [PyData.eqv, PyData.eqvAll]
theorem r_neLot0 {K : PySem.W.Frag} {H : Hp} {Q : VK} {l q : Addr} {w : Int} {lot : List (Int × Int)} (h : LotAt H l lot) (hw : w ≤ 10 ^ 30) (hn : lot.length ≤ 31) (hr : ∀ p ∈ lot, RecOk w p) (hq : H q = some (.lst [])) (k : Q (.bl (!lot.isEmpty)) H) : rNeD K (.ref l) (.ref q) H Q :=
  ⟨lotD lot, .list [], dp_lot h, dp_new hq .nil, (nice_lotR hw hn hr).shaped (by decide), by simp [SeqAt.shaped, PyData.canLay0, PyData.canLayAll0, PyData.depth, PyData.depthAll], by
    unfold lotD
    rw [eqv_nil, List.isEmpty_map]
    exact k⟩
end R04
namespace R04
open PySem PySem.Spec PyProof.Rows L2 Rg
local macro_rules | `(tactic| walk_at "rs") => `(tactic| (first
  | with_reducible refine Rg.r_seq ?_ | with_reducible refine Rg.r_asg ?_ | with_reducible refine Rg.r_name ?_ | with_reducible refine Rg.r_drop ?_ | with_reducible refine Rg.r_ret ?_ | with_reducible refine Rg.r_next ?_
  | refine Rg.r_var rfl ?_ | with_reducible refine Rg.r_c ?_ | with_reducible refine Rg.r_op ?_ | with_reducible refine Rg.r_un ?_ | with_reducible refine Rg.r_rU ?_ | with_reducible refine Rg.r_I0 ?_
  | with_reducible refine Rg.r_eqI ?_ | with_reducible refine Rg.r_neI ?_ | with_reducible refine Rg.r_test ?_ | with_reducible refine Rg.r_B ?_ | with_reducible refine Rg.r_bl ?_ | with_reducible refine Rg.r_not ?_ | with_reducible refine Rg.r_and ?_ | with_reducible refine Rg.r_or ?_
  | with_reducible refine Rg.r_andV ?_ | with_reducible refine Rg.r_orV ?_ | with_reducible refine Rg.r_notV ?_ | with_reducible refine Rg.r_if ?_ | with_reducible refine Rg.r_ifE ?_ | with_reducible refine Rg.r_chain ?_
  | with_reducible refine Rg.r_cb ?_ | with_reducible refine Rg.r_call ?_ | with_reducible refine Rg.r_nil ?_ | with_reducible refine Rg.r_cons ?_ | with_reducible refine Rg.r_lst ?_ | with_reducible refine Rg.r_tup ?_ | with_reducible refine Rg.r_sl ?_ | with_reducible refine Rg.r_noP ?_ | with_reducible refine Rg.r_part ?_ | with_reducible refine Rg.r_int ?_
  | with_reducible refine Rg.r_intI ?_ | with_reducible refine Rg.r_intB ?_ | with_reducible refine Rg.r_abs2 ?_ | with_reducible refine Rg.r_mx2 ?_ | with_reducible refine Rg.r_mn2 ?_ | with_reducible refine Rg.r_sub ?_ | with_reducible refine Rg.r_par ?_ | with_reducible refine Rg.r_par2 ?_ | with_reducible refine Rg.r_bm ?_
  | with_reducible refine Rg.r_gcons ?_ | with_reducible refine Rg.r_gnil ?_ | refine Rg.r_aug rfl ?_ | with_reducible refine Rg.r_ip ?_ | with_reducible refine iteT ?_ | with_reducible refine iteF ?_
  | with_reducible refine Rg.r_par3 ?_ | with_reducible refine Rg.r_par3b ?_ | with_reducible refine Rg.r_kw ?_ | with_reducible refine Rg.r_rev0 ?_ | with_reducible refine Rg.r_revL ?_
  | with_reducible refine Rg.r_for ?_ | with_reducible refine Rg.r_lc ?_ | with_reducible refine Rg.r_ilist ?_ | with_reducible refine Rg.r_ienum ?_ | with_reducible refine Rg.r_izip ?_ | with_reducible refine Rg.r_irng1 ?_ | with_reducible refine Rg.r_irng2 ?_))
local macro_rules | `(tactic| walk_at "nm") => `(tactic| (try simp only [L2.start, List.map_cons, List.map_nil, List.length_cons, List.length_nil, List.replicate_succ, List.replicate_zero, List.cons_append, List.nil_append, List.set_cons_succ, List.set_cons_zero, Nat.reduceAdd, Nat.reduceSub, Nat.zero_add, Nat.add_zero]))
/-- the four tops of a length -/
theorem at4w {w : Int} {q : Int} (hw : 1 ≤ w) (q0 : 0 ≤ q) (q4 : q < 4) : ∃ v : Int, atI [V.int (if 2 < w then 2 else w), V.int w, V.int w, V.int (2 * w + 1)] q = some (.int v) ∧ 1 ≤ v ∧ v ≤ 2 * w + 1 := by
  rcases (show q = 0 ∨ q = 1 ∨ q = 2 ∨ q = 3 by omega) with rfl | rfl | rfl | rfl
  · exact ⟨_, at0, by split <;> omega, by split <;> omega⟩
  · exact ⟨_, at1, by omega, by omega⟩
  · exact ⟨_, at2, by omega, by omega⟩
  · exact ⟨_, atI_nat (j := 3) rfl, by omega, by omega⟩
def LenOk (w : Int) (lot : List (Int × Int)) : Prop := ∀ p ∈ lot, RecOk w p ∧ p.2 ≤ 2 * w + 1
theorem lot_last {H : Hp} {l : Addr} {lot : List (Int × Int)} (h : LotAt H l lot) (n : lot ≠ []) : ∃ (xs : List V) (a : Addr) (p : Int × Int), H l = some (.lst xs) ∧ atI xs (-1) = some (.ref a) ∧ TupAt H a p := by
  obtain ⟨as, e, pr⟩ := h
  have hl := paired_len pr
  have hp : 0 < lot.length := List.length_pos_iff.mpr n
  have hj : lot.length - 1 < lot.length := by omega
  obtain ⟨a, g, t⟩ := paired_get pr (List.getElem?_eq_getElem hj)
  refine ⟨_, a, _, e, ?_, t⟩
  unfold atI ixN
  rw [if_neg (by decide), List.length_map, if_pos (by omega)]
  show (as.map V.ref)[((-1 : Int) + (as.length : Int)).toNat]? = _
  have e2 : ((-1 : Int) + (as.length : Int)).toNat = lot.length - 1 := by omega
  rw [e2, List.getElem?_map, g]
  rfl
section
variable {P : Program} {w : World} {K : PySem.W.Frag} {mg : Str → Option Value} {base : Heap}
def spLot : Sp := fun vs H Q _ => ∃ (a : Addr) (wd n : Int) (N : Nat), vs = [.ref a, .int wd, .int n] ∧ Src a N H ∧ 1 ≤ wd ∧ wd ≤ 10 ^ 30 ∧ 0 ≤ n ∧ n ≤ 30 ∧ N + 300 < 10 ^ 9 ∧
  ∀ l lot H', Sx a H H' → Src a (N + 200) H' → H l = none → LotAt H' l lot → (lot.length : Int) = n → LenOk wd lot → Q (.ref l) H'
theorem ok_law_lot (T : Tx K mg) : FnOk P w K mg base CX0 2 T.a_law_lot T.d_law_lot P_law_lot spLot := by
  refine T.p_law_lot.fn.ok sc_law_lot (fun vs H Q E h => ?_) (fun cdv A outer s H vs Q E hr h => ?_)
  · obtain ⟨a, wd, n, N, rfl, _⟩ := h
    rfl
  · obtain ⟨a, wd, n, N, rfl, hs, w1, w2, n1, n30, hN, k⟩ := h
    refine ⟨_, (pss_cons (ps_par3 (i := 3) (j := 4) (l := 5) rfl sc_law_lot.nd rfl rfl rfl (by decide) (by decide) (by decide) rfl rfl rfl (pa_cons (pe_lst pa_nil) (pa_cons (pe_call (ok_law_draw T) (hr.mono (by decide)) (by rfl) T.p_law_draw.g T.p_law_draw.fn.kp T.p_law_draw.b .nil pass0 (pa_cons (pv 0) (pa_cons pe_int pa_nil))) (pa_cons (pe_call (ok_law_draw T) (hr.mono (by decide)) (by rfl) T.p_law_draw.g T.p_law_draw.fn.kp T.p_law_draw.b .nil pass0 (pa_cons (pv 0) (pa_cons (pv 1) pa_nil))) pa_nil))) (by rfl))
      (pss_cons (ps_for PassesOwn.never rfl (pi_range1 rfl T.n_range (pa_cons (pv 2) pa_nil)) (pg_name (i := 6) sc_law_lot.nd rfl (.inl rfl)) (pss_cons (ps_set (i := 7) sc_law_lot.nd rfl (.inl rfl) (pe_op op_add pe_int (pe_call (ok_law_draw T) (hr.mono (by decide)) (by rfl) T.p_law_draw.g T.p_law_draw.fn.kp T.p_law_draw.b .nil pass0 (pa_cons (pv 0) (pa_cons (pe_ix ix_list (pe_lst (pa_cons (pe_callB (call_mn2 rfl) (by rfl) T.n_min (by rfl) (pa_cons (pv 1) (pa_cons pe_int pa_nil))) (pa_cons (pv 1) (pa_cons (pv 1) (pa_cons (pe_op op_add (pe_op op_mulW pe_int (pv 1)) pe_int) pa_nil))))) (pe_call (ok_law_draw T) (hr.mono (by decide)) (by rfl) T.p_law_draw.g T.p_law_draw.fn.kp T.p_law_draw.b .nil pass0 (pa_cons (pv 0) (pa_cons pe_int pa_nil))) (fun _ _ => rfl)) pa_nil)))))
      (pss_cons (ps_set (i := 8) sc_law_lot.nd rfl (.inl rfl) (pe_call (ok_law_draw T) (hr.mono (by decide)) (by rfl) T.p_law_draw.g T.p_law_draw.fn.kp T.p_law_draw.b .nil pass0 (pa_cons (pv 0) (pa_cons (pv 1) pa_nil))))
      (Evl.pss_cut (ps_if (pw_and (pt_cmpR op_eq (pv 4) pe_int (nomark _)) (pw_and1 (pt_cmpR op_eq (pe_call (ok_law_draw T) (hr.mono (by decide)) (by rfl) T.p_law_draw.g T.p_law_draw.fn.kp T.p_law_draw.b .nil pass0 (pa_cons (pv 0) (pa_cons pe_int pa_nil))) pe_int (nomark _)))).pt (pss_one (ps_set (i := 8) sc_law_lot.nd rfl (.inl rfl) (pv 5))) pss_nil)
      (Evl.pss_cut (ps_if (pw_and (pt_cmpR op_eq (pv 4) pe_int (nomark _)) (pw_and1 (pt_cmpR (op_neD (hu64 hr)) (pv 3) (pe_lst pa_nil) (nomark _)))).pt (pss_one (ps_set (i := 8) sc_law_lot.nd rfl (.inl rfl) (pe_op op_mod (pe_callTy call_intI (by rfl) T.n_int (by rfl) (pa_cons (pe_callB (call_sumT rfl) (by rfl) T.n_sum (by rfl) (pa_cons (pe_ix ix_list (pv 3) (pe_un un_neg pe_int) (fun _ _ => rfl)) pa_nil)) pa_nil)) (pv 1)))) pss_nil)
      (Evl.pss_cut (ps_if (pt_cmpR op_eq (pv 4) pe_int (nomark _)) (pss_one (ps_set (i := 7) sc_law_lot.nd rfl (.inl rfl) (pe_op op_mulW (pv 1) (pe_op op_add pe_int (pe_callTy call_intB (by rfl) T.n_int (by rfl) (pa_cons (pe_cmpR op_eq (pe_call (ok_law_draw T) (hr.mono (by decide)) (by rfl) T.p_law_draw.g T.p_law_draw.fn.kp T.p_law_draw.b .nil pass0 (pa_cons (pv 0) (pa_cons pe_int pa_nil))) pe_int (nomark _)) pa_nil)))))) pss_nil)
      (pss_one (ps_expr (pe_bm PySem.F.plainAttrs_list PySem.F.slot_list_append PySem.F.type_list_append mt_append (pv 3) (pa_cons (pe_tup (pa_cons (pv 8) (pa_cons (pv 7) pa_nil))) pa_nil))))))))))
      (pss_one (ps_ret (pv 3))))), ?_⟩
    repeat walk_at "rs"
    refine ⟨by decide, fun F hF => ?_⟩
    have nF : F ≠ a := by
      obtain ⟨_, _, _, q, _⟩ := hs
      exact fun e => ne_of_none q hF e.symm
    have W0 : Wd a F [] H N (upd H F (.lst [])) := ⟨⟨[], upd_same, .nil⟩, Sx.of (Same.new hF), hs.same (Same.new hF)⟩
    revert W0
    generalize upd H F (.lst []) = H1
    intro W0
    repeat walk_at "rs"
    refine ⟨a, 4, N, rfl, W0.sr, by decide, smallc (by decide), by omega, fun way H2 y0 y1 sx2 sr2 => ?_⟩
    have W2 := W0.draw nF sx2 sr2
    repeat walk_at "rs"
    refine ⟨a, wd, _, rfl, W2.sr, by omega, smallc (by omega), by omega, fun spot H3 sp0 sp1 sx3 sr3 => ?_⟩
    have W3 := W2.draw nF sx3 sr3
    repeat walk_at "rs"
    refine ⟨n, rfl, by omega, by omega, ?_⟩
    walk_at "nm"
    refine for_gen n.toNat (fun i σ H' => ∃ (fnd : List (Int × Int)) (y6 y7 y8 : Option V), σ = [some (.ref a), some (.int wd), some (.int n), some (.ref F), some (.int way), some (.int spot), y6, y7, y8] ∧ fnd.length = i ∧ LenOk wd fnd ∧ Wd a F fnd H (N + 2 + 6 * i) H')
      ⟨[], none, none, none, rfl, rfl, (fun p hp => by cases hp), W3⟩ ?_ ?_ ?_ ?_
    · rintro σ H' _
      exact Nat.le_refl _
    · rintro i σ H' hi _
      exact hi
    · rintro i σ H' x H4 hi ⟨fnd, y6, y7, y8, rfl, hn, hL, W4⟩ ⟨rfl, rfl⟩
      repeat walk_at "rs"
      refine r_I (wide_mul (a := 10) (b := 120) (by decide) (by omega) (by decide) (by decide) (by decide)) ?_
      repeat walk_at "rs"
      refine ⟨by show 4 ≤ sizeLine; decide, fun p hp => ?_⟩
      have np := W4.ne hp
      have W5 := W4.same (Same.new (o := .lst [.int (if 2 < wd then 2 else wd), .int wd, .int wd, .int (2 * wd + 1)]) hp)
      have ep : (upd H4 p (.lst [.int (if 2 < wd then 2 else wd), .int wd, .int wd, .int (2 * wd + 1)])) p = some (.lst [.int (if 2 < wd then 2 else wd), .int wd, .int wd, .int (2 * wd + 1)]) := upd_same
      revert W5 ep
      generalize upd H4 p (.lst [.int (if 2 < wd then 2 else wd), .int wd, .int wd, .int (2 * wd + 1)]) = H5
      intro W5 ep
      repeat walk_at "rs"
      refine ⟨a, 4, _, rfl, W5.sr, by decide, smallc (by decide), by omega, fun q1 H6 q10 q11 sx6 sr6 => ?_⟩
      have W6 := W5.draw nF sx6 sr6
      obtain ⟨v, hv, v1, v2⟩ := at4w w1 q10 q11
      refine r_ixL (sqe (sx6 _ _ np ep)) hv ?_
      clear ep hv
      repeat walk_at "rs"
      refine ⟨a, v, _, rfl, W6.sr, by omega, smallc (by omega), by omega, fun r H7 r0 r1 sx7 sr7 => ?_⟩
      have W7 := W6.draw nF sx7 sr7
      repeat walk_at "rs"
      refine ⟨a, wd, _, rfl, W7.sr, by omega, smallc (by omega), by omega, fun at_ H8 a0 a1 sx8 sr8 => ?_⟩
      have W8 := W7.draw nF sx8 sr8
      repeat walk_at "rs"
      walk_at "nm"
      refine r_cut (fun σ' G' => ∃ b : Int, σ' = [some (.ref a), some (.int wd), some (.int n), some (.ref F), some (.int way), some (.int spot), some (.int (0 + (i : Int))), some (.int (1 + r)), some (.int b)] ∧ 0 ≤ b ∧ b < wd ∧ Wd a F fnd H (N + 2 + 6 * i + 4) G') ?_ ?_
      · repeat walk_at "rs"
        refine ite2 (fun _ => ?_) (fun _ => ?_)
        · repeat walk_at "rs"
          refine ⟨a, 2, _, rfl, W8.sr, by decide, smallc (by decide), by omega, fun q2 H9 _ _ sx9 sr9 => ?_⟩
          have W9 := W8.draw nF sx9 sr9
          repeat walk_at "rs"
          refine ite2 (fun _ => ?_) (fun _ => ?_)
          · repeat walk_at "rs"
            exact ⟨spot, rfl, sp0, sp1, ⟨W9.lt, W9.sx, W9.sr.le (by omega)⟩⟩
          · repeat walk_at "rs"
            exact ⟨at_, rfl, a0, a1, ⟨W9.lt, W9.sx, W9.sr.le (by omega)⟩⟩
        · repeat walk_at "rs"
          exact ⟨at_, rfl, a0, a1, ⟨W8.lt, W8.sx, W8.sr.le (by omega)⟩⟩
      · rintro σ' G ⟨b, rfl, b0, b1, W9⟩
        refine r_cut (fun σ' G' => ∃ b : Int, σ' = [some (.ref a), some (.int wd), some (.int n), some (.ref F), some (.int way), some (.int spot), some (.int (0 + (i : Int))), some (.int (1 + r)), some (.int b)] ∧ 0 ≤ b ∧ b < wd ∧ Wd a F fnd H (N + 2 + 6 * i + 4) G') ?_ ?_
        · repeat walk_at "rs"
          refine ite2 (fun _ => ?_) (fun _ => ?_)
          · repeat walk_at "rs"
            refine ⟨by decide, fun p2 hp2 => ?_⟩
            have W10 := W9.same (Same.new (o := .lst []) hp2)
            have e2 : (upd G p2 (.lst [])) p2 = some (.lst []) := upd_same
            revert W10 e2
            generalize upd G p2 (.lst []) = G2
            intro W10 e2
            refine r_neLot0 W10.lt w2 (by omega) (fun p hp => (hL p hp).1) e2 ?_
            repeat walk_at "rs"
            refine ite2 (fun c => ?_) (fun _ => ?_)
            · repeat walk_at "rs"
              obtain ⟨xs, t, p3, hxs, hat, ht⟩ := lot_last W10.lt (fun z => by rw [z] at c; cases c)
              refine r_ixL (sqe hxs) hat ?_
              repeat walk_at "rs"
              refine r_sumT (ns := [p3.1, p3.2]) (ste ht) ?_
              repeat walk_at "rs"
              refine r_I (by omega) ?_
              repeat walk_at "rs"
              exact ⟨_, rfl, Int.emod_nonneg _ (by omega), Int.emod_lt_of_pos _ (by omega), W10⟩
            · repeat walk_at "rs"
              exact ⟨b, rfl, b0, b1, W10⟩
          · repeat walk_at "rs"
            exact ⟨b, rfl, b0, b1, W9⟩
        · rintro σ' G ⟨b, rfl, b0, b1, W10⟩
          refine r_cut (fun σ' G' => ∃ sz : Int, σ' = [some (.ref a), some (.int wd), some (.int n), some (.ref F), some (.int way), some (.int spot), some (.int (0 + (i : Int))), some (.int sz), some (.int b)] ∧ 1 ≤ sz ∧ sz ≤ 2 * wd + 1 ∧ Wd a F fnd H (N + 2 + 6 * i + 5) G') ?_ ?_
          · repeat walk_at "rs"
            refine ite2 (fun _ => ?_) (fun _ => ?_)
            · repeat walk_at "rs"
              refine ⟨a, 4, _, rfl, W10.sr, by decide, smallc (by decide), by omega, fun q5 G5 _ _ sx11 sr11 => ?_⟩
              have W11 := W10.draw nF sx11 sr11
              repeat walk_at "rs"
              refine r_I (wide_mul (a := 120) (b := 10) (by omega) (by split <;> decide) (by decide) (by decide) (by decide)) ?_
              repeat walk_at "rs"
              refine ⟨_, rfl, ?_, ?_, W11⟩
              · split
                · omega
                · omega
              · split
                · omega
                · omega
            · repeat walk_at "rs"
              exact ⟨1 + r, rfl, by omega, by omega, ⟨W10.lt, W10.sx, W10.sr.le (by omega)⟩⟩
          · rintro σ' G ⟨sz, rfl, z1, z2, W12⟩
            repeat walk_at "rs"
            obtain ⟨_, eF, _⟩ := W12.lt.seq
            refine ⟨.inl ⟨rfl, _, sqe eF⟩, ?_⟩
            repeat walk_at "rs"
            refine ⟨by show 2 ≤ sizeLine; decide, fun t ht => ?_⟩
            obtain ⟨as, eF2, las, lsn⟩ := W12.lt.snoc (p := (b, sz)) ht
            have nFt : F ≠ t := ne_of_none eF2 ht
            have nat_ := W12.ne ht
            have hF0 : H F = none := hF
            repeat walk_at "rs"
            refine r_app (xs := as.map V.ref) (by rw [upd_ne nFt]; exact eF2) (by rw [List.length_map]; omega) ?_
            repeat walk_at "rs"
            refine ⟨fnd ++ [(b, sz)], _, _, _, rfl, by rw [List.length_append, hn]; rfl, ?_, ⟨lsn, ?_, ?_⟩⟩
            · intro p hp
              rcases List.mem_append.mp hp with q | q
              · exact hL p q
              · rw [List.mem_singleton.mp q]
                exact ⟨⟨b0, b1, z1, by show sz ≤ 10 ^ 31; omega⟩, z2⟩
            · intro c o nc hc
              have ncF : c ≠ F := ne_of_none hc hF0
              have nct : c ≠ t := ne_of_none (W12.sx c o nc hc) ht
              rw [upd_ne ncF, upd_ne nct]
              exact W12.sx c o nc hc
            · obtain ⟨x, y, z, q, r⟩ := W12.sr
              refine ⟨x, y, z, ?_, ?_⟩
              · rw [upd_ne nF.symm, upd_ne nat_.symm]
                exact q
              · rw [show N + 2 + 6 * (i + 1) = N + 2 + 6 * i + 6 by omega]
                omega
    · rintro σ H' ⟨fnd, y6, y7, y8, rfl, hn, hL, W4⟩
      repeat walk_at "rs"
      exact k F fnd H' W4.sx (W4.sr.le (by omega)) hF W4.lt (by omega) hL
end
end R04
namespace R04
open PySem PySem.Spec PyProof.Rows L2 Rg
local macro_rules | `(tactic| walk_at "rs") => `(tactic| (first
  | with_reducible refine Rg.r_seq ?_ | with_reducible refine Rg.r_asg ?_ | with_reducible refine Rg.r_name ?_ | with_reducible refine Rg.r_drop ?_ | with_reducible refine Rg.r_ret ?_ | with_reducible refine Rg.r_next ?_
  | refine Rg.r_var rfl ?_ | with_reducible refine Rg.r_c ?_ | with_reducible refine Rg.r_op ?_ | with_reducible refine Rg.r_un ?_ | with_reducible refine Rg.r_rU ?_ | with_reducible refine Rg.r_I0 ?_
  | with_reducible refine Rg.r_eqI ?_ | with_reducible refine Rg.r_neI ?_ | with_reducible refine Rg.r_test ?_ | with_reducible refine Rg.r_B ?_ | with_reducible refine Rg.r_bl ?_ | with_reducible refine Rg.r_not ?_ | with_reducible refine Rg.r_and ?_ | with_reducible refine Rg.r_or ?_
  | with_reducible refine Rg.r_andV ?_ | with_reducible refine Rg.r_orV ?_ | with_reducible refine Rg.r_notV ?_ | with_reducible refine Rg.r_if ?_ | with_reducible refine Rg.r_ifE ?_ | with_reducible refine Rg.r_chain ?_
  | with_reducible refine Rg.r_cb ?_ | with_reducible refine Rg.r_call ?_ | with_reducible refine Rg.r_nil ?_ | with_reducible refine Rg.r_cons ?_ | with_reducible refine Rg.r_lst ?_ | with_reducible refine Rg.r_tup ?_ | with_reducible refine Rg.r_sl ?_ | with_reducible refine Rg.r_noP ?_ | with_reducible refine Rg.r_part ?_ | with_reducible refine Rg.r_int ?_
  | with_reducible refine Rg.r_intI ?_ | with_reducible refine Rg.r_intB ?_ | with_reducible refine Rg.r_abs2 ?_ | with_reducible refine Rg.r_mx2 ?_ | with_reducible refine Rg.r_mn2 ?_ | with_reducible refine Rg.r_sub ?_ | with_reducible refine Rg.r_par ?_ | with_reducible refine Rg.r_par2 ?_ | with_reducible refine Rg.r_bm ?_
  | with_reducible refine Rg.r_gcons ?_ | with_reducible refine Rg.r_gnil ?_ | refine Rg.r_aug rfl ?_ | with_reducible refine Rg.r_ip ?_ | with_reducible refine iteT ?_ | with_reducible refine iteF ?_
  | with_reducible refine Rg.r_par3 ?_ | with_reducible refine Rg.r_par3b ?_ | with_reducible refine Rg.r_kw ?_ | with_reducible refine Rg.r_rev0 ?_ | with_reducible refine Rg.r_revL ?_
  | with_reducible refine Rg.r_for ?_ | with_reducible refine Rg.r_lc ?_ | with_reducible refine Rg.r_ilist ?_ | with_reducible refine Rg.r_ienum ?_ | with_reducible refine Rg.r_izip ?_ | with_reducible refine Rg.r_irng1 ?_ | with_reducible refine Rg.r_irng2 ?_))
local macro_rules | `(tactic| walk_at "nm") => `(tactic| (try simp only [L2.start, List.map_cons, List.map_nil, List.length_cons, List.length_nil, List.replicate_succ, List.replicate_zero, List.cons_append, List.nil_append, List.set_cons_succ, List.set_cons_zero, Nat.reduceAdd, Nat.reduceSub, Nat.zero_add, Nat.add_zero]))
section
variable {P : Program} {w : World} {K : PySem.W.Frag} {mg : Str → Option Value} {base : Heap}
def spFarLot : Sp := fun vs H Q _ => ∃ (a : Addr) (n : Int) (N : Nat), vs = [.ref a, .int n] ∧ Src a N H ∧ 1 ≤ n ∧ n ≤ 30 ∧ N + 200 < 10 ^ 9 ∧
  ∀ t l w lot H', Sx a H H' → Src a (N + 190) H' → H' t = some (.tup [.int w, .ref l]) → H l = none → LotAt H' l lot → (lot.length : Int) = n → RingOk w lot → Q (.ref t) H'
theorem ok_law_far_lot (T : Tx K mg) : FnOk P w K mg base CX0 2 T.a_law_far_lot T.d_law_far_lot P_law_far_lot spFarLot := by
  refine T.p_law_far_lot.fn.ok sc_law_far_lot (fun vs H Q E h => ?_) (fun cdv A outer s H vs Q E hr h => ?_)
  · obtain ⟨a, n, N, rfl, _⟩ := h
    rfl
  · obtain ⟨a, n, N, rfl, hs, n1, n30, hN, k⟩ := h
    refine ⟨_, (pss_cons (ps_set (i := 2) sc_law_far_lot.nd rfl (.inr rfl) (pe_ix ix_list (pe_lst (pa_cons (pe_op op_powW pe_int pe_int) (pa_cons (pe_op op_add pe_int (pe_call (ok_law_draw T) (hr.mono (by decide)) (by rfl) T.p_law_draw.g T.p_law_draw.fn.kp T.p_law_draw.b .nil pass0 (pa_cons (pv 0) (pa_cons (pe_op op_powW pe_int pe_int) pa_nil)))) (pa_cons (pe_op op_add (pe_op op_powW pe_int pe_int) pe_int) pa_nil)))) (pe_call (ok_law_draw T) (hr.mono (by decide)) (by rfl) T.p_law_draw.g T.p_law_draw.fn.kp T.p_law_draw.b .nil pass0 (pa_cons (pv 0) (pa_cons pe_int pa_nil))) (fun _ _ => rfl)))
      (pss_cons (ps_par (i := 3) (j := 4) rfl sc_law_far_lot.nd rfl rfl (by decide) rfl rfl (pa_cons (pe_lc (own := [("turn", 9)]) (tt := tYes) rfl sc_law_far_lot.nd (pi_range1 rfl T.n_range (pa_cons pe_int pa_nil)) (blkOk_by (N := N_law_far_lot) (sc := defScope s_law_far_lot) (by decide +kernel)) (fun _ _ _ _ _ => by exact (pg_name (i := 9) sc_law_far_lot.nd rfl (.inl rfl))) (fun _ _ _ _ _ => pts_nil) (fun _ _ _ _ _ => by exact (pe_call (ok_law_draw T) (hr.mono (by decide)) (by rfl) T.p_law_draw.g T.p_law_draw.fn.kp T.p_law_draw.b .nil pass0 (pa_cons (pv 0) (pa_cons (pv 2) pa_nil))))) (pa_cons (pe_lst pa_nil) pa_nil)) (by rfl))
      (pss_cons (ps_for PassesOwn.never rfl (pi_range1 rfl T.n_range (pa_cons (pv 1) pa_nil)) (pg_name (i := 5) sc_law_far_lot.nd rfl (.inl rfl)) (pss_cons (ps_par (i := 6) (j := 7) rfl sc_law_far_lot.nd rfl rfl (by decide) rfl rfl (pa_cons (pe_ix ix_list (pv 3) (pe_call (ok_law_draw T) (hr.mono (by decide)) (by rfl) T.p_law_draw.g T.p_law_draw.fn.kp T.p_law_draw.b .nil pass0 (pa_cons (pv 0) (pa_cons pe_int pa_nil))) (fun _ _ => rfl)) (pa_cons (pe_op op_add pe_int (pe_call (ok_law_draw T) (hr.mono (by decide)) (by rfl) T.p_law_draw.g T.p_law_draw.fn.kp T.p_law_draw.b .nil pass0 (pa_cons (pv 0) (pa_cons (pe_ix ix_list (pe_lst (pa_cons (pv 2) (pa_cons (pe_op op_powW pe_int pe_int) (pa_cons pe_int pa_nil)))) (pe_call (ok_law_draw T) (hr.mono (by decide)) (by rfl) T.p_law_draw.g T.p_law_draw.fn.kp T.p_law_draw.b .nil pass0 (pa_cons (pv 0) (pa_cons pe_int pa_nil))) (fun _ _ => rfl)) pa_nil)))) pa_nil)) (by rfl))
      (pss_cons (ps_set (i := 8) sc_law_far_lot.nd rfl (.inl rfl) (pe_call (ok_law_draw T) (hr.mono (by decide)) (by rfl) T.p_law_draw.g T.p_law_draw.fn.kp T.p_law_draw.b .nil pass0 (pa_cons (pv 0) (pa_cons pe_int pa_nil))))
      (Evl.pss_cut (ps_if (pt_cmpR op_eq (pv 8) pe_int (nomark _)) (pss_one (ps_set (i := 7) sc_law_far_lot.nd rfl (.inl rfl) (pe_op op_add pe_int (pe_op op_mod (pe_callTy call_intI (by rfl) T.n_int (by rfl) (pa_cons (pe_op op_sub (pe_op op_sub (pe_ix ix_list (pv 3) (pe_call (ok_law_draw T) (hr.mono (by decide)) (by rfl) T.p_law_draw.g T.p_law_draw.fn.kp T.p_law_draw.b .nil pass0 (pa_cons (pv 0) (pa_cons pe_int pa_nil))) (fun _ _ => rfl)) (pv 6)) pe_int) pa_nil)) (pv 2))))) pss_nil)
      (Evl.pss_cut (ps_if (pt_cmpR op_eq (pv 8) pe_int (nomark _)) (pss_one (ps_set (i := 6) sc_law_far_lot.nd rfl (.inl rfl) (pe_call (ok_law_draw T) (hr.mono (by decide)) (by rfl) T.p_law_draw.g T.p_law_draw.fn.kp T.p_law_draw.b .nil pass0 (pa_cons (pv 0) (pa_cons (pv 2) pa_nil))))) pss_nil)
      (pss_one (ps_expr (pe_bm PySem.F.plainAttrs_list PySem.F.slot_list_append PySem.F.type_list_append mt_append (pv 4) (pa_cons (pe_tup (pa_cons (pv 6) (pa_cons (pv 7) pa_nil))) pa_nil)))))))))
      (pss_one (ps_ret (pe_tup (pa_cons (pv 2) (pa_cons (pv 4) pa_nil)))))))), ?_⟩
    repeat walk_at "rs"
    refine r_I (cpow 30 (by decide) (n := 10) (by decide) (by decide)) ?_
    repeat walk_at "rs"
    refine r_I (cpow 30 (by decide) (n := 10) (by decide) (by decide)) ?_
    repeat walk_at "rs"
    refine ⟨a, _, N, rfl, hs, by decide, smallc (by decide), by omega, fun r1 H1 r10 r11 sx1 sr1 => ?_⟩
    have e30 : (10 : Int) ^ Int.toNat 30 = 10 ^ 30 := rfl
    rw [e30] at r11 ⊢
    repeat walk_at "rs"
    refine r_I (cpow 29 (by decide) (n := 10) (by decide) (by decide)) ?_
    repeat walk_at "rs"
    refine ⟨by show 3 ≤ sizeLine; decide, fun p hp => ?_⟩
    have npa : a ≠ p := by
      obtain ⟨_, _, _, q, _⟩ := sr1
      exact ne_of_none q hp
    have s2 := Same.new (o := .lst [.int (10 ^ 30), .int (1 + r1), .int (10 ^ Int.toNat 29 + 1)]) hp
    repeat walk_at "rs"
    refine ⟨a, 3, N + 1, rfl, sr1.same s2, by decide, smallc (by decide), by omega, fun r2 H2 r20 r21 sx2 sr2 => ?_⟩
    have ep : H2 p = some (.lst [.int (10 ^ 30), .int (1 + r1), .int (10 ^ Int.toNat 29 + 1)]) := sx2 _ _ npa.symm upd_same
    have sxB : Sx a H H2 := (sx1.trans (Sx.of s2)).trans sx2
    have e29 : (10 : Int) ^ Int.toNat 29 = 10 ^ 29 := rfl
    rw [e29] at ep
    obtain ⟨wd, hat, wd1, wd2⟩ := at3b (lo := 1) (hi := 10 ^ 30) (x := 10 ^ 30) (y := 1 + r1) (z := 10 ^ 29 + 1) r20 r21 (by omega) (by omega) (by omega)
    refine r_ixL (sqe ep) hat ?_
    clear hat ep s2 npa hp
    repeat walk_at "rs"
    -- the four spots
    refine ⟨4, rfl, by decide, by decide, fun D hD => ?_⟩
    have naD : a ≠ D := by
      obtain ⟨_, _, _, q, _⟩ := sr2
      exact ne_of_none q hD
    have kS : ∀ (h : Hp) (M : Nat) (acc' : List V), Src a M h → Src a M (upd h D (.lst acc')) := fun h M acc' q => by
      obtain ⟨x, y, z, e, r⟩ := q
      exact ⟨x, y, z, by rw [upd_ne naD]; exact e, r⟩
    have kX : ∀ (h : Hp) (acc' : List V), Sx a H2 h → Sx a H2 (upd h D (.lst acc')) := fun h acc' q b o nb e => by
      rw [upd_ne (ne_of_none e hD)]
      exact q b o nb e
    refine lc_gen 4 (by decide) (fun i h => Sx a H2 h ∧ Src a (N + 2 + i) h) (fun i v h => ∃ r : Int, v = .int r ∧ 0 ≤ r ∧ r < wd) hD ⟨kX _ _ (Sx.refl _ _), kS _ _ _ sr2⟩ (fun i h acc acc' _ q => ⟨kX _ _ q.1, kS _ _ _ q.2⟩) ?_ ?_ ?_ ?_ ?_
    · intro h q
      exact Nat.le_refl 4
    · intro i h hi q
      exact hi
    · rintro i h x h' acc Q' hi ⟨qx, qs⟩ ha ⟨rfl, rfl⟩ q
      repeat walk_at "rs"
      refine ⟨rfl, ?_⟩
      repeat walk_at "rs"
      refine ⟨a, wd, _, rfl, qs, by omega, smallc (by omega), by omega, fun r h4 r0 r1 sx4 sr4 => ?_⟩
      exact q _ _ ⟨qx.trans sx4, sr4⟩ (sx4 _ _ naD.symm ha) (fun _ _ _ r => r) ⟨r, rfl, r0, r1⟩
    · intro i y h acc acc' _ r
      exact r
    · rintro H3 acc ⟨sx3, sr3⟩ ha hlen hF
      have ha1 : ∀ r : Int, 0 ≤ r → r < 4 → ∃ v, atI acc r = some (.int v) ∧ 0 ≤ v ∧ v < wd := by
        intro r h0 h1
        obtain ⟨v, gv⟩ := get_of (xs := acc) (i := r.toNat) (by omega)
        obtain ⟨z, rfl, z0, z1⟩ := hF _ _ gv
        have er : r = ((r.toNat : Nat) : Int) := by omega
        exact ⟨z, by rw [er]; exact atI_nat gv, z0, z1⟩
      repeat walk_at "rs"
      refine ⟨by decide, fun F hFn => ?_⟩
      repeat walk_at "rs"
      have naF : a ≠ F := by
        obtain ⟨_, _, _, q, _⟩ := sr3
        exact ne_of_none q hFn
      have nDF : D ≠ F := ne_of_none ha hFn
      have s3 := Same.new (o := .lst []) hFn
      have hF0 : H F = none := by
        cases q : H F with
        | none => rfl
        | some o =>
          have q2 := sx3 F o naF.symm (sxB F o naF.symm q)
          rw [hFn] at q2
          cases q2
      have sxC : Sx a H (upd H3 F (.lst [])) := (sxB.trans sx3).trans (Sx.of s3)
      refine ⟨n, rfl, by omega, by omega, ?_⟩
      refine for_gen n.toNat (fun i σ H' => ∃ (fnd : List (Int × Int)) (y5 y6 y7 y8 : Option V), σ = [some (.ref a), some (.int n), some (.int wd), some (.ref D), some (.ref F), y5, y6, y7, y8, none] ∧ fnd.length = i ∧ RecsOk wd fnd ∧
        FarW a D F acc H wd fnd (N + 6 + 6 * i) H') ⟨[], none, none, none, none, rfl, rfl, (fun p hp => by cases hp), ⟨⟨[], upd_same, .nil⟩, s3 _ _ ha, sxC, (sr3.same s3).le (by omega)⟩⟩ ?_ ?_ ?_ ?_
      · rintro σ H' _
        exact Nat.le_refl _
      · rintro i σ H' hi _
        exact hi
      · rintro i σ H' x H'' hi ⟨fnd, y5, y6, y7, y8, rfl, hn, hR, W0⟩ ⟨rfl, rfl⟩
        rw [Int.zero_add]
        repeat walk_at "rs"
        refine ⟨a, 4, _, rfl, W0.sr, by decide, smallc (by decide), by omega, fun q1 G1 q10 q11 tx1 tr1 => ?_⟩
        have W1 := W0.draw naD.symm naF.symm tx1 tr1
        obtain ⟨at_, hat1, b0, b1⟩ := ha1 q1 q10 q11
        refine r_ixL (sqe W1.sp) hat1 ?_
        repeat walk_at "rs"
        refine r_I (cpow 31 (by decide) (n := 10) (by decide) (by decide)) ?_
        have e31 : (10 : Int) ^ Int.toNat 31 = 10 ^ 31 := rfl
        rw [e31]
        repeat walk_at "rs"
        refine ⟨by show 3 ≤ sizeLine; decide, fun p2 hp2 => ?_⟩
        have np2 : a ≠ p2 := by
          obtain ⟨_, _, _, q, _⟩ := tr1
          exact ne_of_none q hp2
        have W2 := W1.same (Same.new (o := .lst [.int wd, .int (10 ^ 31), .int 1000]) hp2)
        repeat walk_at "rs"
        refine ⟨a, 3, _, rfl, W2.sr, by decide, smallc (by decide), by omega, fun q2 G2 q20 q21 tx2 tr2 => ?_⟩
        have W3 := W2.draw naD.symm naF.symm tx2 tr2
        have ep2 : G2 p2 = some (.lst [.int wd, .int (10 ^ 31), .int 1000]) := tx2 _ _ np2.symm upd_same
        obtain ⟨cb, hcb, c0, c1⟩ := at3b (lo := 1) (hi := 10 ^ 31) (x := wd) (y := 10 ^ 31) (z := 1000) q20 q21 (by omega) (by omega) (by omega)
        refine r_ixL (sqe ep2) hcb ?_
        clear hcb
        repeat walk_at "rs"
        refine ⟨a, cb, _, rfl, W3.sr, by omega, smallc (by omega), by omega, fun q3 G3 q30 q31 tx3 tr3 => ?_⟩
        have W4 := W3.draw naD.symm naF.symm tx3 tr3
        repeat walk_at "rs"
        refine ⟨a, 4, _, rfl, W4.sr, by decide, smallc (by decide), by omega, fun q4 G4 q40 q41 tx4 tr4 => ?_⟩
        have W5 := W4.draw naD.symm naF.symm tx4 tr4
        repeat walk_at "rs"
        refine r_cut (fun σ' G' => ∃ sz : Int, σ' = [some (.ref a), some (.int n), some (.int wd), some (.ref D), some (.ref F), some (.int (i : Int)), some (.int at_), some (.int sz), some (.int q4), none] ∧ 1 ≤ sz ∧ sz ≤ 10 ^ 31 ∧ FarW a D F acc H wd fnd (N + 6 + 6 * i + 5) G') ?_ ?_
        · repeat walk_at "rs"
          refine ite2 (fun _ => ?_) (fun _ => ?_)
          · repeat walk_at "rs"
            refine ⟨a, 4, _, rfl, W5.sr, by decide, smallc (by decide), by omega, fun q5 G5 q50 q51 tx5 tr5 => ?_⟩
            have W6 := W5.draw naD.symm naF.symm tx5 tr5
            obtain ⟨s5, hs5, _, _⟩ := ha1 q5 q50 q51
            refine r_ixL (sqe W6.sp) hs5 ?_
            repeat walk_at "rs"
            refine r_I (by omega) ?_
            have mm1 := Int.emod_nonneg (s5 - at_ - 1) (b := wd) (by omega)
            have mm2 := Int.emod_lt_of_pos (s5 - at_ - 1) (b := wd) (by omega)
            repeat walk_at "rs"
            exact ⟨1 + (s5 - at_ - 1) % wd, rfl, by omega, by omega, W6.le (by omega)⟩
          · repeat walk_at "rs"
            exact ⟨1 + q3, rfl, by omega, by omega, W5.le (by omega)⟩
        · rintro σ' G' ⟨sz, rfl, z1, z2, W6⟩
          refine r_cut (fun σ' G' => ∃ b : Int, σ' = [some (.ref a), some (.int n), some (.int wd), some (.ref D), some (.ref F), some (.int (i : Int)), some (.int b), some (.int sz), some (.int q4), none] ∧ 0 ≤ b ∧ b < wd ∧ FarW a D F acc H wd fnd (N + 6 + 6 * i + 6) G') ?_ ?_
          · repeat walk_at "rs"
            refine ite2 (fun _ => ?_) (fun _ => ?_)
            · repeat walk_at "rs"
              refine ⟨a, wd, _, rfl, W6.sr, by omega, smallc (by omega), by omega, fun q5 G5 q50 q51 tx5 tr5 => ?_⟩
              repeat walk_at "rs"
              exact ⟨q5, rfl, q50, q51, (W6.draw naD.symm naF.symm tx5 tr5).le (by omega)⟩
            · repeat walk_at "rs"
              exact ⟨at_, rfl, b0, b1, W6.le (by omega)⟩
          · rintro σ' G5 ⟨b, rfl, bb0, bb1, W7⟩
            repeat walk_at "rs"
            obtain ⟨_, eF, _⟩ := W7.lot.seq
            refine ⟨.inl ⟨rfl, _, sqe eF⟩, ?_⟩
            repeat walk_at "rs"
            refine ⟨by show 2 ≤ sizeLine; decide, fun t ht => ?_⟩
            obtain ⟨as, eF2, las, lsn⟩ := W7.lot.snoc (p := (b, sz)) ht
            have nFt : F ≠ t := ne_of_none eF2 ht
            have nat_ : a ≠ t := by
              obtain ⟨_, _, _, q, _⟩ := W7.sr
              exact ne_of_none q ht
            repeat walk_at "rs"
            refine r_app (xs := as.map V.ref) (by rw [upd_ne nFt]; exact eF2) (by rw [List.length_map]; omega) ?_
            repeat walk_at "rs"
            refine ⟨fnd ++ [(b, sz)], _, _, _, _, rfl, by rw [List.length_append, hn]; rfl, ?_, ⟨lsn, ?_, ?_, ?_⟩⟩
            · intro p hp
              rcases List.mem_append.mp hp with q | q
              · exact hR p q
              · rw [List.mem_singleton.mp q]
                exact ⟨bb0, bb1, z1, z2⟩
            · rw [upd_ne nDF, upd_ne (ne_of_none W7.sp ht)]
              exact W7.sp
            · intro c o nc hc
              have ncF : c ≠ F := ne_of_none hc hF0
              have nct : c ≠ t := ne_of_none (W7.sx c o nc hc) ht
              rw [upd_ne ncF, upd_ne nct]
              exact W7.sx c o nc hc
            · obtain ⟨x, y, z, q, r⟩ := W7.sr
              refine ⟨x, y, z, ?_, ?_⟩
              · rw [upd_ne naF, upd_ne nat_]
                exact q
              · rw [show N + 6 + 6 * (i + 1) = N + 6 + 6 * i + 6 by omega]
                exact r
      · rintro σ H' ⟨fnd, y5, y6, y7, y8, rfl, hn, hR, W⟩
        repeat walk_at "rs"
        refine ⟨by show 2 ≤ sizeLine; decide, fun t ht => ?_⟩
        have W2 := W.same (Same.new (o := .tup [.int wd, .ref F]) ht)
        exact k t F wd fnd _ W2.sx (W2.sr.le (by omega)) upd_same hF0 W2.lot (by omega) ⟨by omega, by omega, by omega, by omega, hR⟩
end
end R04
namespace R04
open PySem PySem.Spec PyProof.Rows L2 Rg
local macro_rules | `(tactic| walk_at "rs") => `(tactic| (first
  | with_reducible refine Rg.r_seq ?_ | with_reducible refine Rg.r_asg ?_ | with_reducible refine Rg.r_name ?_ | with_reducible refine Rg.r_drop ?_ | with_reducible refine Rg.r_ret ?_ | with_reducible refine Rg.r_next ?_
  | refine Rg.r_var rfl ?_ | with_reducible refine Rg.r_c ?_ | with_reducible refine Rg.r_op ?_ | with_reducible refine Rg.r_un ?_ | with_reducible refine Rg.r_rU ?_ | with_reducible refine Rg.r_I0 ?_
  | with_reducible refine Rg.r_eqI ?_ | with_reducible refine Rg.r_neI ?_ | with_reducible refine Rg.r_test ?_ | with_reducible refine Rg.r_B ?_ | with_reducible refine Rg.r_bl ?_ | with_reducible refine Rg.r_not ?_ | with_reducible refine Rg.r_and ?_ | with_reducible refine Rg.r_or ?_
  | with_reducible refine Rg.r_andV ?_ | with_reducible refine Rg.r_orV ?_ | with_reducible refine Rg.r_notV ?_ | with_reducible refine Rg.r_if ?_ | with_reducible refine Rg.r_ifE ?_ | with_reducible refine Rg.r_chain ?_
  | with_reducible refine Rg.r_cb ?_ | with_reducible refine Rg.r_call ?_ | with_reducible refine Rg.r_nil ?_ | with_reducible refine Rg.r_cons ?_ | with_reducible refine Rg.r_lst ?_ | with_reducible refine Rg.r_tup ?_ | with_reducible refine Rg.r_sl ?_ | with_reducible refine Rg.r_noP ?_ | with_reducible refine Rg.r_part ?_ | with_reducible refine Rg.r_int ?_
  | with_reducible refine Rg.r_intI ?_ | with_reducible refine Rg.r_intB ?_ | with_reducible refine Rg.r_abs2 ?_ | with_reducible refine Rg.r_mx2 ?_ | with_reducible refine Rg.r_mn2 ?_ | with_reducible refine Rg.r_sub ?_ | with_reducible refine Rg.r_par ?_ | with_reducible refine Rg.r_par2 ?_ | with_reducible refine Rg.r_bm ?_
  | with_reducible refine Rg.r_gcons ?_ | with_reducible refine Rg.r_gnil ?_ | refine Rg.r_aug rfl ?_ | with_reducible refine Rg.r_ip ?_ | with_reducible refine iteT ?_ | with_reducible refine iteF ?_
  | with_reducible refine Rg.r_par3 ?_ | with_reducible refine Rg.r_par3b ?_ | with_reducible refine Rg.r_kw ?_ | with_reducible refine Rg.r_rev0 ?_ | with_reducible refine Rg.r_revL ?_
  | with_reducible refine Rg.r_for ?_ | with_reducible refine Rg.r_lc ?_ | with_reducible refine Rg.r_ilist ?_ | with_reducible refine Rg.r_ienum ?_ | with_reducible refine Rg.r_izip ?_ | with_reducible refine Rg.r_irng1 ?_ | with_reducible refine Rg.r_irng2 ?_))
local macro_rules | `(tactic| walk_at "nm") => `(tactic| (try simp only [L2.start, List.map_cons, List.map_nil, List.length_cons, List.length_nil, List.replicate_succ, List.replicate_zero, List.cons_append, List.nil_append, List.set_cons_succ, List.set_cons_zero, Nat.reduceAdd, Nat.reduceSub, Nat.zero_add, Nat.add_zero]))
/-! ### covers: the mirror -/
def timesF (w : Int) (x : Int) (p : Int × Int) : Int := if (x - p.1) % w < p.2 % w then p.2 / w + 1 else p.2 / w
def coverF (w : Int) (lot : List (Int × Int)) (x : Int) : Int := (lot.map (timesF w x)).sum
def endF (w : Int) (p : Int × Int) : Int := (p.1 + p.2) % w
def endsF (w : Int) (lot : List (Int × Int)) : List Int := lot.map (endF w)
def bordersL (w : Int) (lot : List (Int × Int)) : List Int := lot.map Prod.fst ++ endsF w lot
/-- the borders, strictly ascending -/
structure Bd (w : Int) (lot : List (Int × Int)) (ns : List Int) : Prop where
  asc : ns.Pairwise (· < ·)
  mem : ∀ x, x ∈ ns ↔ x ∈ bordersL w lot
def coversF (w : Int) (lot : List (Int × Int)) (ns : List Int) : List (Int × Int) := ns.map fun x => (x, coverF w lot x)
theorem asc_unique : ∀ {xs ys : List Int}, xs.Pairwise (· < ·) → ys.Pairwise (· < ·) → (∀ x, x ∈ xs ↔ x ∈ ys) → xs = ys
  | [], [], _, _, _ => rfl
  | [], y :: ys, _, _, h => absurd ((h y).mpr (List.mem_cons_self ..)) (by simp)
  | x :: xs, [], _, _, h => absurd ((h x).mp (List.mem_cons_self ..)) (by simp)
  | x :: xs, y :: ys, hx, hy, h => by
    obtain ⟨a1, a2⟩ := List.pairwise_cons.mp hx
    obtain ⟨b1, b2⟩ := List.pairwise_cons.mp hy
    have e : x = y := by
      rcases List.mem_cons.mp ((h x).mp (List.mem_cons_self ..)) with q | q
      · exact q
      · rcases List.mem_cons.mp ((h y).mpr (List.mem_cons_self ..)) with r | r
        · exact r.symm
        · have := a1 y r
          have := b1 x q
          omega
    subst e
    rw [asc_unique a2 b2 fun z => ?_]
    constructor
    · intro hz
      rcases List.mem_cons.mp ((h z).mp (List.mem_cons_of_mem _ hz)) with q | q
      · have := a1 z hz
        omega
      · exact q
    · intro hz
      rcases List.mem_cons.mp ((h z).mpr (List.mem_cons_of_mem _ hz)) with q | q
      · have := b1 z hz
        omega
      · exact q
theorem Bd.eq {w : Int} {lot : List (Int × Int)} {xs ys : List Int} (h : Bd w lot xs) (k : Bd w lot ys) : xs = ys := asc_unique h.asc k.asc fun x => (h.mem x).trans (k.mem x).symm
theorem bd_rng {w : Int} {lot : List (Int × Int)} {ns : List Int} (R : RingOk w lot) (B : Bd w lot ns) : ∀ x ∈ ns, 0 ≤ x ∧ x < w := fun x hx => by
  have w1 := R.w1
  rcases List.mem_append.mp ((B.mem x).mp hx) with q | q
  · obtain ⟨p, hp, rfl⟩ := List.mem_map.mp q
    exact ⟨(R.rc p hp).1, (R.rc p hp).2.1⟩
  · obtain ⟨p, hp, rfl⟩ := List.mem_map.mp q
    exact ⟨Int.emod_nonneg _ (by omega), Int.emod_lt_of_pos _ (by omega)⟩
/-- a list of ints out of a lot, item by item -/
theorem acc_map {lot : List (Int × Int)} {acc : List V} {f : Int × Int → Int} (hl : acc.length = lot.length) (h : ∀ (j : Nat) (z : V), acc[j]? = some z → ∃ p, lot[j]? = some p ∧ z = .int (f p)) : acc = (lot.map f).map V.int := by
  refine List.ext_getElem? fun j => ?_
  by_cases hj : j < lot.length
  · obtain ⟨z, gz⟩ := get_of (xs := acc) (i := j) (by omega)
    obtain ⟨p, gp, rfl⟩ := h j z gz
    rw [gz, List.getElem?_map, List.getElem?_map, gp]
    rfl
  · rw [List.getElem?_eq_none (by omega), List.getElem?_eq_none (by rw [List.length_map, List.length_map]; omega)]
theorem r_sset {K : PySem.W.Frag} {w : World} {σ : L2.St} {H : Hp} {Q : VK} {d : Addr} {bs : List Int} (hd : SqL K H d (bs.map V.int)) (hn : bs.length < 64)
    (k : ∀ (ns : List Int) (q : Addr) (H' : Hp), ns.Pairwise (· < ·) → (∀ x, x ∈ ns ↔ x ∈ bs) → ns.length < 64 → Same H H' → H q = none → IntsAt H' q ns → Q (.ref q) H') :
    rSetOfL K w [.ref d] H fun x H1 => tNil σ H1 fun xs H2 => rSortedSet w (x :: xs) H2 Q := by
  refine ⟨d, bs, rfl, hd, by omega, fun p c hp hc => ?_⟩
  refine ⟨p, _, c, rfl, upd_same, by omega, fun ns q asc mem hc2 hq => ?_⟩
  have s5 := Same.new (o := SetO w p (fun j => decide (j ∈ bs)) c) hp
  exact k ns q _ asc (fun x => by rw [mem x, decide_eq_true_iff]) (by omega) (s5.trans (Same.new hq)) (s5.free hq) upd_same
section
variable {P : Program} {w : World} {K : PySem.W.Frag} {mg : Str → Option Value} {base : Heap}
def spTimes : Sp := fun vs H Q _ => ∃ (m x : Int) (a : Addr) (p : Int × Int), vs = [.int m, .ref a, .int x] ∧ TupAt H a p ∧ 1 ≤ m ∧ m < 2 ^ 200 ∧ Q (.int (timesF m x p)) H
theorem ok_times_over (T : Tx K mg) : FnOk P w K mg base CX0 1 T.a_times_over T.d_times_over P_times_over spTimes := by
  refine T.p_times_over.fn.ok sc_times_over (fun vs H Q E h => ?_) (fun cdv A outer s H vs Q E hr h => ?_)
  · obtain ⟨m, x, a, p, rfl, _⟩ := h
    rfl
  · obtain ⟨m, x, a, p, rfl, ha, m1, m2, k⟩ := h
    refine ⟨_, (pss_cons (ps_asg (pv 1) (pg_tup (n := 2) rfl (pgs_cons (pg_name (i := 3) sc_times_over.nd rfl (.inl rfl)) (pgs_cons (pg_name (i := 4) sc_times_over.nd rfl (.inl rfl)) pgs_nil))))
      (pss_cons (ps_if (pt_cmpR op_lt (pe_op op_mod (pe_op op_sub (pv 2) (pv 3)) (pv 0)) (pe_op op_mod (pv 4) (pv 0)) (nomark _)) (pss_one (ps_ret (pe_op op_add (pe_op op_fdivW (pv 4) (pv 0)) pe_int))) pss_nil)
      (pss_one (ps_ret (pe_op op_fdivW (pv 4) (pv 0)))))), ?_⟩
    repeat walk_at "rs"
    refine r_gtup (ste ha) rfl ?_
    repeat walk_at "rs"
    refine r_I (by omega) ?_
    repeat walk_at "rs"
    refine r_I (by omega) ?_
    repeat walk_at "rs"
    refine ite2 (fun c => ?_) (fun c => ?_)
    · have c2 : (x - p.1) % m < p.2 % m := of_decide_eq_true c
      repeat walk_at "rs"
      refine r_I (wide_div (b := 200) (by omega) (by omega) (by decide) (by decide)) ?_
      repeat walk_at "rs"
      have e : timesF m x p = p.2 / m + 1 := if_pos c2
      rw [e] at k
      exact k
    · have c2 : ¬ (x - p.1) % m < p.2 % m := fun z => c (decide_eq_true z)
      repeat walk_at "rs"
      refine r_I (wide_div (b := 200) (by omega) (by omega) (by decide) (by decide)) ?_
      have e : timesF m x p = p.2 / m := if_neg c2
      rw [e] at k
      exact k
def spCovOf : Sp := fun vs H Q _ => ∃ (m x : Int) (l : Addr) (lot : List (Int × Int)), vs = [.int m, .ref l, .int x] ∧ LotAt H l lot ∧ lot.length ≤ 40 ∧ 1 ≤ m ∧ m < 2 ^ 200 ∧ ∀ H', Same H H' → Q (.int (coverF m lot x)) H'
theorem ok_cover_of (T : Tx K mg) : FnOk P w K mg base CX0 2 T.a_cover_of T.d_cover_of P_cover_of spCovOf := by
  refine T.p_cover_of.fn.ok sc_cover_of (fun vs H Q E h => ?_) (fun cdv A outer s H vs Q E hr h => ?_)
  · obtain ⟨m, x, l, lot, rfl, _⟩ := h
    rfl
  · obtain ⟨m, x, l, lot, rfl, hl, hn, m1, m2, k⟩ := h
    refine ⟨_, (pss_one (ps_ret (pe_callB (cr_sum rfl) (by rfl) T.n_sum (by rfl) (pa_cons (pe_lc (own := [("record", 3)]) (tt := tYes) rfl sc_cover_of.nd (pi_list (pv 1)) (blkOk_by (N := N_cover_of) (sc := defScope s_cover_of) (by decide +kernel)) (fun _ _ _ _ _ => by exact (pg_name (i := 3) sc_cover_of.nd rfl (.inl rfl))) (fun _ _ _ _ _ => pts_nil) (fun _ _ _ _ _ => by exact (pe_call (ok_times_over T) (hr.mono (by decide)) (by rfl) T.p_times_over.g T.p_times_over.fn.kp T.p_times_over.b .nil pass0 (pa_cons (pv 0) (pa_cons (pv 3) (pa_cons (pv 2) pa_nil)))))) pa_nil)))), ?_⟩
    repeat walk_at "rs"
    obtain ⟨xs, hx, hxn⟩ := hl.seq
    refine ⟨l, rfl, ⟨xs, sqe hx⟩, fun D hD => ?_⟩
    have kD : ∀ (h : Hp) (acc' : List V), Same H h → Same H (upd h D (.lst acc')) := fun h acc' q => same_keep hD q
    refine lc_gen xs.length (by omega) (fun i h => Same H h) (fun i v h => ∃ p, lot[i]? = some p ∧ v = .int (timesF m x p)) hD (kD _ _ (Same.refl _)) (fun i h acc acc' _ q => kD _ _ q) ?_ ?_ ?_ ?_ ?_
    · intro h sm
      exact ⟨xs, sqe (sm _ _ hx), Nat.le_refl _⟩
    · intro i h hi sm
      exact go_list (sqe (sm _ _ hx)) hi
    · rintro i h y h' acc Q' hi sm ha ⟨rfl, f1⟩ q
      obtain ⟨a, p, rfl, gp, ta⟩ := lot_item (hl.same sm) (sm _ _ hx) (f1 _ (sqe (sm _ _ hx)))
      repeat walk_at "rs"
      refine ⟨rfl, ?_⟩
      repeat walk_at "rs"
      exact ⟨m, x, a, p, rfl, ta, m1, m2, q _ _ sm ha (fun _ _ _ r => r) ⟨p, gp, rfl⟩⟩
    · intro i y h acc acc' _ r
      exact r
    · intro h acc sm ha hlen hF
      rw [acc_map (f := timesF m x) (by omega) hF] at ha
      repeat walk_at "rs"
      refine r_sum (sqe ha) ?_
      exact k _ sm
def spEndsOf : Sp := fun vs H Q _ => ∃ (m : Int) (l : Addr) (lot : List (Int × Int)), vs = [.int m, .ref l] ∧ LotAt H l lot ∧ RingOk m lot ∧ ∀ q H', Same H H' → H q = none → IntsAt H' q (endsF m lot) → Q (.ref q) H'
def spCovAt : Sp := fun vs H Q _ => ∃ (m x : Int) (l : Addr) (lot : List (Int × Int)), vs = [.int m, .ref l, .int x] ∧ LotAt H l lot ∧ RingOk m lot ∧ 0 ≤ x ∧ x < m ∧ ∀ H', Same H H' → Q (.int (coverF m lot x)) H'
theorem ok_cover_at (T : Tx K mg) : FnOk P w K mg base CX0 6 T.a_cover_at T.d_cover_at P_cover_at spCovAt := by
  refine T.p_cover_at.fn.ok sc_cover_at (fun vs H Q E h => ?_) (fun cdv A outer s H vs Q E hr h => ?_)
  · obtain ⟨m, x, l, lot, rfl, _⟩ := h
    rfl
  · obtain ⟨m, x, l, lot, rfl, hl, R, x0, x1, k⟩ := h
    have n2 := R.n2
    have w2 := R.w2
    refine ⟨_, (pss_cons (ps_expr (pe_call (ok_check_ring T) (hr.mono (by decide)) (by rfl) T.p_check_ring.g T.p_check_ring.fn.kp T.p_check_ring.b .nil pass0 (pa_cons (pv 0) (pa_cons (pv 1) pa_nil))))
      (pss_cons (ps_expr (pe_call (ok_check_mark T) (hr.mono (by decide)) (by rfl) T.p_check_mark.g T.p_check_mark.fn.kp T.p_check_mark.b .nil pass0 (pa_cons (pv 0) (pa_cons (pv 2) pa_nil))))
      (pss_one (ps_ret (pe_call (ok_cover_of T) (hr.mono (by decide)) (by rfl) T.p_cover_of.g T.p_cover_of.fn.kp T.p_cover_of.b .nil pass0 (pa_cons (pv 0) (pa_cons (pv 1) (pa_cons (pv 2) pa_nil)))))))), ?_⟩
    repeat walk_at "rs"
    refine ⟨m, l, lot, rfl, hl, R, fun H1 s1 => ?_⟩
    repeat walk_at "rs"
    refine ⟨m, x, rfl, x0, x1, ?_⟩
    repeat walk_at "rs"
    refine ⟨m, x, l, lot, rfl, hl.same s1, by omega, R.w1, by omega, fun H2 s2 => ?_⟩
    exact k _ (s1.trans s2)
def spCovers : Sp := fun vs H Q _ => ∃ (m : Int) (l : Addr) (lot : List (Int × Int)), vs = [.int m, .ref l] ∧ LotAt H l lot ∧ RingOk m lot ∧ ∀ ns q H', Bd m lot ns → ns.length < 64 → Same H H' → H q = none → LotAt H' q (coversF m lot ns) → Q (.ref q) H'
def spMost : Sp := fun vs H Q _ => ∃ (m : Int) (l : Addr) (lot : List (Int × Int)), vs = [.int m, .ref l] ∧ LotAt H l lot ∧ RingOk m lot ∧ ∀ ns v H', Bd m lot ns → v ∈ ns.map (coverF m lot) → (∀ y ∈ ns.map (coverF m lot), y ≤ v) → Same H H' → Q (.int v) H'
theorem covers_snd (w : Int) (lot : List (Int × Int)) (ns : List Int) : (coversF w lot ns).map Prod.snd = ns.map (coverF w lot) := by
  unfold coversF
  rw [List.map_map]
  rfl
theorem bd_pos {w : Int} {lot : List (Int × Int)} {ns : List Int} (R : RingOk w lot) (B : Bd w lot ns) : 0 < ns.length := by
  have n1 := R.n1
  obtain ⟨p, hp⟩ : ∃ p, p ∈ lot := by
    cases lot with
    | nil => simp at n1
    | cons p r => exact ⟨p, List.mem_cons_self ..⟩
  exact List.length_pos_of_mem ((B.mem p.1).mpr (List.mem_append_left _ (List.mem_map_of_mem hp)))
end
end R04
namespace R04
open PySem PySem.Spec PyProof.Rows L2 Rg
local macro_rules | `(tactic| walk_at "rs") => `(tactic| (first
  | with_reducible refine Rg.r_seq ?_ | with_reducible refine Rg.r_asg ?_ | with_reducible refine Rg.r_name ?_ | with_reducible refine Rg.r_drop ?_ | with_reducible refine Rg.r_ret ?_ | with_reducible refine Rg.r_next ?_
  | refine Rg.r_var rfl ?_ | with_reducible refine Rg.r_c ?_ | with_reducible refine Rg.r_op ?_ | with_reducible refine Rg.r_un ?_ | with_reducible refine Rg.r_rU ?_ | with_reducible refine Rg.r_I0 ?_
  | with_reducible refine Rg.r_eqI ?_ | with_reducible refine Rg.r_neI ?_ | with_reducible refine Rg.r_test ?_ | with_reducible refine Rg.r_B ?_ | with_reducible refine Rg.r_bl ?_ | with_reducible refine Rg.r_not ?_ | with_reducible refine Rg.r_and ?_ | with_reducible refine Rg.r_or ?_
  | with_reducible refine Rg.r_andV ?_ | with_reducible refine Rg.r_orV ?_ | with_reducible refine Rg.r_notV ?_ | with_reducible refine Rg.r_if ?_ | with_reducible refine Rg.r_ifE ?_ | with_reducible refine Rg.r_chain ?_
  | with_reducible refine Rg.r_cb ?_ | with_reducible refine Rg.r_call ?_ | with_reducible refine Rg.r_nil ?_ | with_reducible refine Rg.r_cons ?_ | with_reducible refine Rg.r_lst ?_ | with_reducible refine Rg.r_tup ?_ | with_reducible refine Rg.r_sl ?_ | with_reducible refine Rg.r_noP ?_ | with_reducible refine Rg.r_part ?_ | with_reducible refine Rg.r_int ?_
  | with_reducible refine Rg.r_intI ?_ | with_reducible refine Rg.r_intB ?_ | with_reducible refine Rg.r_abs2 ?_ | with_reducible refine Rg.r_mx2 ?_ | with_reducible refine Rg.r_mn2 ?_ | with_reducible refine Rg.r_sub ?_ | with_reducible refine Rg.r_par ?_ | with_reducible refine Rg.r_par2 ?_ | with_reducible refine Rg.r_bm ?_
  | with_reducible refine Rg.r_gcons ?_ | with_reducible refine Rg.r_gnil ?_ | refine Rg.r_aug rfl ?_ | with_reducible refine Rg.r_ip ?_ | with_reducible refine iteT ?_ | with_reducible refine iteF ?_
  | with_reducible refine Rg.r_par3 ?_ | with_reducible refine Rg.r_par3b ?_ | with_reducible refine Rg.r_kw ?_ | with_reducible refine Rg.r_rev0 ?_ | with_reducible refine Rg.r_revL ?_
  | with_reducible refine Rg.r_for ?_ | with_reducible refine Rg.r_lc ?_ | with_reducible refine Rg.r_ilist ?_ | with_reducible refine Rg.r_ienum ?_ | with_reducible refine Rg.r_izip ?_ | with_reducible refine Rg.r_irng1 ?_ | with_reducible refine Rg.r_irng2 ?_))
local macro_rules | `(tactic| walk_at "nm") => `(tactic| (try simp only [L2.start, List.map_cons, List.map_nil, List.length_cons, List.length_nil, List.replicate_succ, List.replicate_zero, List.cons_append, List.nil_append, List.set_cons_succ, List.set_cons_zero, Nat.reduceAdd, Nat.reduceSub, Nat.zero_add, Nat.add_zero]))
def mirF (w : Int) (lot : List (Int × Int)) : List (Int × Int) := lot.map fun p => ((0 - p.1 - p.2) % w, p.2)
def multF (f : Int) (lot : List (Int × Int)) : List (Int × Int) := lot.map fun p => (p.1 * f, p.2 * f)
theorem mirF_len (w : Int) (lot : List (Int × Int)) : (mirF w lot).length = lot.length := by
  unfold mirF
  exact List.length_map _
theorem multF_len (f : Int) (lot : List (Int × Int)) : (multF f lot).length = lot.length := by
  unfold multF
  exact List.length_map _
theorem neg_end (a b m : Int) : (-((a + b) % m)) % m = (0 - a - b) % m := by
  have e : -((a + b) % m) = 0 - (a + b) % m := by omega
  rw [e, Int.sub_emod, Int.emod_emod, ← Int.sub_emod]
  congr 1
  omega
/-- the ring's marks and all lengths stay within the bounds -/
def Fits (m f : Int) (lot : List (Int × Int)) : Prop := m * f ≤ 10 ^ 30 ∧ ∀ p ∈ lot, p.2 * f ≤ 10 ^ 31
section
variable {P : Program} {w : World} {K : PySem.W.Frag} {mg : Str → Option Value} {base : Heap}
def spIsFrom : Sp := fun vs H Q _ => ∃ v n : Int, vs = [.int v, .int n] ∧ n ≤ v ∧ Q (.bl true) H
theorem ok_is_from (T : Tx K mg) : FnOk P w K mg base CX0 2 T.a_is_from T.d_is_from P_is_from spIsFrom := by
  refine T.p_is_from.fn.ok sc_is_from (fun vs H Q E h => ?_) (fun cdv A outer s H vs Q E hr h => ?_)
  · obtain ⟨v, n, rfl, _⟩ := h
    rfl
  · obtain ⟨v, n, rfl, hv, k⟩ := h
    refine ⟨_, (pss_one (ps_ret (pe_and (pe_call (ok_is_integer T) (hr.mono (by decide)) (by rfl) T.p_is_integer.g T.p_is_integer.fn.kp T.p_is_integer.b .nil pass0 (pa_cons (pv 0) pa_nil)) (pe_one (pe_cmpR op_ge (pv 0) (pv 1) (nomark _)))))), ?_⟩
    repeat walk_at "rs"
    refine ⟨v, rfl, ?_⟩
    repeat walk_at "rs"
    rw [decide_eq_true hv]
    exact k
def spChkLeast : Sp := fun vs H Q _ => ∃ v n : Int, vs = [.int v, .int n] ∧ n ≤ v ∧ Q .non H
theorem ok_check_least (T : Tx K mg) : FnOk P w K mg base CX0 3 T.a_check_least T.d_check_least P_check_least spChkLeast := by
  refine T.p_check_least.fn.ok sc_check_least (fun vs H Q E h => ?_) (fun cdv A outer s H vs Q E hr h => ?_)
  · obtain ⟨v, n, rfl, _⟩ := h
    rfl
  · obtain ⟨v, n, rfl, hv, k⟩ := h
    refine ⟨_, (pss_one (ps_if (pt_not (pt_val (pe_call (ok_is_from T) (hr.mono (by decide)) (by rfl) T.p_is_from.g T.p_is_from.fn.kp T.p_is_from.b .nil pass0 (pa_cons (pv 0) (pa_cons (pv 1) pa_nil))))) (pss_one ps_never) pss_nil)), ?_⟩
    repeat walk_at "rs"
    refine ⟨v, n, rfl, hv, ?_⟩
    repeat walk_at "rs"
    exact k
def spMirr : Sp := fun vs H Q _ => ∃ (m : Int) (l : Addr) (lot : List (Int × Int)), vs = [.int m, .ref l] ∧ LotAt H l lot ∧ RingOk m lot ∧ ∀ q H', Same H H' → H q = none → LotAt H' q (mirF m lot) → Q (.ref q) H'
theorem ok_mirrored (T : Tx K mg) : FnOk P w K mg base CX0 6 T.a_mirrored T.d_mirrored P_mirrored spMirr := by
  refine T.p_mirrored.fn.ok sc_mirrored (fun vs H Q E h => ?_) (fun cdv A outer s H vs Q E hr h => ?_)
  · obtain ⟨m, l, lot, rfl, _⟩ := h
    rfl
  · obtain ⟨m, l, lot, rfl, hl, R, k⟩ := h
    have n2 := R.n2
    have w1 := R.w1
    refine ⟨_, (pss_cons (ps_expr (pe_call (ok_check_ring T) (hr.mono (by decide)) (by rfl) T.p_check_ring.g T.p_check_ring.fn.kp T.p_check_ring.b .nil pass0 (pa_cons (pv 0) (pa_cons (pv 1) pa_nil))))
      (pss_one (ps_ret (pe_lc (own := [("record", 2)]) (tt := tYes) rfl sc_mirrored.nd (pi_list (pv 1)) (blkOk_by (N := N_mirrored) (sc := defScope s_mirrored) (by decide +kernel)) (fun _ _ _ _ _ => by exact (pg_name (i := 2) sc_mirrored.nd rfl (.inl rfl))) (fun _ _ _ _ _ => pts_nil) (fun _ _ _ _ _ => by exact (pe_tup (pa_cons (pe_op op_mod (pe_un un_neg (pe_call (ok_end_of T) (hr.mono (by decide)) (by rfl) T.p_end_of.g T.p_end_of.fn.kp T.p_end_of.b .nil pass0 (pa_cons (pv 0) (pa_cons (pv 2) pa_nil)))) (pv 0)) (pa_cons (pe_ix (r := rIxT K) ix_tup (pv 2) pe_int (fun _ _ => rfl)) pa_nil)))))))), ?_⟩
    repeat walk_at "rs"
    refine ⟨m, l, lot, rfl, hl, R, fun H1 s1 => ?_⟩
    repeat walk_at "rs"
    obtain ⟨xs, hx, hn⟩ := (hl.same s1).seq
    refine ⟨l, rfl, ⟨xs, sqe hx⟩, fun D hD => ?_⟩
    have kD : ∀ (h : Hp) (acc' : List V), Same H1 h → Same H1 (upd h D (.lst acc')) := fun h acc' q => same_keep hD q
    refine lc_gen xs.length (by omega) (fun i h => Same H1 h) (fun i v h => ∃ p a, (mirF m lot)[i]? = some p ∧ v = V.ref a ∧ TupAt h a p) hD (kD _ _ (Same.refl _)) (fun i h acc acc' _ q => kD _ _ q) ?_ ?_ ?_ ?_ ?_
    · intro h sm
      exact ⟨xs, sqe (sm _ _ hx), Nat.le_refl _⟩
    · intro i h hi sm
      exact go_list (sqe (sm _ _ hx)) hi
    · rintro i h x h' acc Q' hi sm ha ⟨rfl, f1⟩ q
      obtain ⟨a, p, rfl, gp, ta⟩ := lot_item ((hl.same s1).same sm) (sm _ _ hx) (f1 _ (sqe (sm _ _ hx)))
      repeat walk_at "rs"
      refine ⟨rfl, ?_⟩
      repeat walk_at "rs"
      refine ⟨m, a, p, rfl, ta, w1, ?_⟩
      repeat walk_at "rs"
      refine r_I (by omega) ?_
      repeat walk_at "rs"
      refine r_ixT (ste ta) at1 ?_
      repeat walk_at "rs"
      refine ⟨by show 2 ≤ sizeLine; decide, fun t ht => ?_⟩
      have sT : Same h' (upd h' t (.tup [.int (-((p.1 + p.2) % m) % m), .int p.2])) := Same.new ht
      refine q _ _ (sm.trans sT) (sT _ _ ha) (fun j z _ r => ?_) ⟨((0 - p.1 - p.2) % m, p.2), t, ?_, rfl, ?_⟩
      · obtain ⟨p', a', g', e', t'⟩ := r
        exact ⟨p', a', g', e', t'.same sT⟩
      · unfold mirF
        rw [List.getElem?_map, gp]
        rfl
      · rw [← neg_end]
        exact upd_same
    · rintro i y h acc acc' ha ⟨p, a, g, e, ta⟩
      refine ⟨p, a, g, e, ?_⟩
      have ne : a ≠ D := ne_of ta ha (by intro z; cases z)
      show upd h D _ a = _
      rw [upd_ne ne]
      exact ta
    · intro h acc sm ha hlen hF
      obtain ⟨as, rfl, pr⟩ := lotPairs (lot := mirF m lot) (acc := acc) (by have := mirF_len m lot; omega) hF
      exact k D h (s1.trans sm) (s1.free hD) ⟨as, ha, pr⟩
def spMult (C : Addr) : Sp := fun vs H Q E => ∃ (m f : Int) (l : Addr) (lot : List (Int × Int)), vs = [.int m, .ref l, .int f] ∧ LotAt H l lot ∧ RingOk m lot ∧ 1 ≤ f ∧ f < 2 ^ 200 ∧
  (Fits m f lot → ∀ q H', Same H H' → H q = none → LotAt H' q (multF f lot) → Q (.ref q) H') ∧ (¬ Fits m f lot → ∀ H', Same H H' → E (.ref C) none H')
theorem ok_multiplied (T : Tx K mg) : FnOk P w K mg base (L2.CX P w) 6 T.a_multiplied T.d_multiplied P_multiplied (spMult T.x_Impossible) := by
  refine T.p_multiplied.fn.okX sc_multiplied (fun vs H Q E h => ?_) (fun cdv A outer s H vs Q E hr h => ?_)
  · obtain ⟨m, f, l, lot, rfl, _⟩ := h
    rfl
  · obtain ⟨m, f, l, lot, rfl, hl, R, f1, f2, k1, k2⟩ := h
    have n1 := R.n1
    have n2 := R.n2
    have w1 := R.w1
    have w2 := R.w2
    refine ⟨_, (pss_cons (ps_expr (pe_call (ok_check_ring T) (hr.mono (by decide)) (by rfl) T.p_check_ring.g T.p_check_ring.fn.kp T.p_check_ring.b .nil pass0 (pa_cons (pv 0) (pa_cons (pv 1) pa_nil))))
      (pss_cons (ps_expr (pe_call (ok_check_least T) (hr.mono (by decide)) (by rfl) T.p_check_least.g T.p_check_least.fn.kp T.p_check_least.b .nil pass0 (pa_cons (pv 2) (pa_cons pe_int pa_nil))))
      (pss_cons (ps_set (i := 3) sc_multiplied.nd rfl (.inl rfl) (pe_callB (cr_max rfl) (by rfl) T.n_max (by rfl) (pa_cons (pe_lc (own := [("_", 6), ("length", 5)]) (tt := tYes) rfl sc_multiplied.nd (pi_list (pv 1)) (blkOk_by (N := N_multiplied) (sc := defScope s_multiplied) (by decide +kernel)) (fun _ _ _ _ _ => by exact (pg_tupK (n := 2) (K := K) rfl rfl (pgs_cons (pg_name (i := 6) sc_multiplied.nd rfl (.inl rfl)) (pgs_cons (pg_name (i := 5) sc_multiplied.nd rfl (.inl rfl)) pgs_nil)))) (fun _ _ _ _ _ => pts_nil) (fun _ _ _ _ _ => by exact (pv 5))) pa_nil)))
      (pss_cons (ps_if (pw_or (pt_cmpR op_gt (pe_op op_mulW (pv 0) (pv 2)) (pe_glob (v := .int (10 ^ 30)) (by rfl) T.c_MOST_MARKS ⟨_, rfl⟩) (nomark _)) (pw_or1 (pt_cmpR op_gt (pe_op op_mulW (pv 3) (pv 2)) (pe_glob (v := .int (10 ^ 31)) (by rfl) T.c_MOST_LENGTH ⟨_, rfl⟩) (nomark _)))).pt (pss_one (ps_raiseT rfl T.X_Impossible (takes_of rfl rfl rfl rfl) (by rfl))) pss_nil)
      (pss_one (ps_ret (pe_lc (own := [("begin", 4), ("length", 5)]) (tt := tYes) rfl sc_multiplied.nd (pi_list (pv 1)) (blkOk_by (N := N_multiplied) (sc := defScope s_multiplied) (by decide +kernel)) (fun _ _ _ _ _ => by exact (pg_tupK (n := 2) (K := K) rfl rfl (pgs_cons (pg_name (i := 4) sc_multiplied.nd rfl (.inl rfl)) (pgs_cons (pg_name (i := 5) sc_multiplied.nd rfl (.inl rfl)) pgs_nil)))) (fun _ _ _ _ _ => pts_nil) (fun _ _ _ _ _ => by exact (pe_tup (pa_cons (pe_op op_mulW (pv 4) (pv 2)) (pa_cons (pe_op op_mulW (pv 5) (pv 2)) pa_nil))))))))))), ?_⟩
    repeat walk_at "rs"
    refine ⟨m, l, lot, rfl, hl, R, fun H1 s1 => ?_⟩
    repeat walk_at "rs"
    refine ⟨f, 1, rfl, f1, ?_⟩
    repeat walk_at "rs"
    obtain ⟨xs, hx, hn⟩ := (hl.same s1).seq
    refine ⟨l, rfl, ⟨xs, sqe hx⟩, fun D hD => ?_⟩
    have kD : ∀ (h : Hp) (acc' : List V), Same H1 h → Same H1 (upd h D (.lst acc')) := fun h acc' q => same_keep hD q
    refine lc_gen xs.length (by omega) (fun i h => Same H1 h) (fun i v h => ∃ p, lot[i]? = some p ∧ v = .int p.2) hD (kD _ _ (Same.refl _)) (fun i h acc acc' _ q => kD _ _ q) ?_ ?_ ?_ ?_ ?_
    · intro h sm
      exact ⟨xs, sqe (sm _ _ hx), Nat.le_refl _⟩
    · intro i h hi sm
      exact go_list (sqe (sm _ _ hx)) hi
    · rintro i h x h' acc Q' hi sm ha ⟨rfl, g1⟩ q
      obtain ⟨a, p, rfl, gp, ta⟩ := lot_item ((hl.same s1).same sm) (sm _ _ hx) (g1 _ (sqe (sm _ _ hx)))
      refine r_gtup (ste ta) rfl ?_
      repeat walk_at "rs"
      refine ⟨rfl, ?_⟩
      repeat walk_at "rs"
      exact q _ _ sm ha (fun _ _ _ r => r) ⟨p, gp, rfl⟩
    · intro i y h acc acc' _ r
      exact r
    · intro H2 acc s2 ha hlen hF
      rw [acc_map (f := Prod.snd) (by omega) hF] at ha
      have s12 := s1.trans s2
      clear hF hlen hx hn kD
      repeat walk_at "rs"
      refine ⟨D, _, rfl, sqe ha, by rw [List.length_map]; omega, fun v hv hle => ?_⟩
      obtain ⟨pv', hpv, rfl⟩ := List.mem_map.mp hv
      have rv := R.rc _ hpv
      have rv2 := rv.2.2
      have c1 : CMulW m f := wide_mul (a := 110) (b := 210) (by omega) (by omega) (by decide) (by decide) (by decide)
      have c2 : CMulW pv'.2 f := wide_mul (a := 110) (b := 210) (by omega) (by omega) (by decide) (by decide) (by decide)
      walk_at "nm"
      repeat walk_at "rs"
      refine r_I c1 ?_
      repeat walk_at "rs"
      refine ite2 (fun c => ?_) (fun c => ?_)
      · refine iteT' rfl ?_
        have c := of_decide_eq_true c
        exact k2 (fun z => by have := z.1; omega) H2 s12
      have cA : ¬ (10 ^ 30 < m * f) := fun z => c (decide_eq_true z)
      walk_at "nm"
      repeat walk_at "rs"
      refine r_I c2 ?_
      repeat walk_at "rs"
      refine ite2 (fun c => ?_) (fun c => ?_)
      · have c := of_decide_eq_true c
        exact k2 (fun z => by have := z.2 _ hpv; omega) H2 s12
      have cB : ¬ (10 ^ 31 < pv'.2 * f) := fun z => c (decide_eq_true z)
      have ft : Fits m f lot := ⟨by omega, fun p hp => by
        have h1 := hle _ (List.mem_map_of_mem (f := Prod.snd) hp)
        have h2 : p.2 * f ≤ pv'.2 * f := Int.mul_le_mul_of_nonneg_right h1 (by omega)
        omega⟩
      repeat walk_at "rs"
      walk_at "nm"
      repeat walk_at "rs"
      have hl2 := hl.same s12
      obtain ⟨xs, hx, hn⟩ := hl2.seq
      refine ⟨l, rfl, ⟨xs, sqe hx⟩, fun D2 hD2 => ?_⟩
      have kD : ∀ (h : Hp) (acc' : List V), Same H2 h → Same H2 (upd h D2 (.lst acc')) := fun h acc' q => same_keep hD2 q
      refine lc_gen xs.length (by omega) (fun i h => Same H2 h) (fun i v h => ∃ p a, (multF f lot)[i]? = some p ∧ v = V.ref a ∧ TupAt h a p) hD2 (kD _ _ (Same.refl _)) (fun i h acc acc' _ q => kD _ _ q) ?_ ?_ ?_ ?_ ?_
      · intro h sm
        exact ⟨xs, sqe (sm _ _ hx), Nat.le_refl _⟩
      · intro i h hi sm
        exact go_list (sqe (sm _ _ hx)) hi
      · rintro i h x h' acc Q' hi sm ha2 ⟨rfl, g1⟩ q
        obtain ⟨a, p, rfl, gp, ta⟩ := lot_item (hl2.same sm) (sm _ _ hx) (g1 _ (sqe (sm _ _ hx)))
        have rp := R.rc _ (List.mem_of_getElem? gp)
        have rp1 := rp.1
        have rp2 := rp.2.1
        have rp3 := rp.2.2.1
        have rp4 := rp.2.2.2
        refine r_gtup (ste ta) rfl ?_
        repeat walk_at "rs"
        refine ⟨rfl, ?_⟩
        repeat walk_at "rs"
        refine r_I (wide_mul (a := 110) (b := 210) (by omega) (by omega) (by decide) (by decide) (by decide)) ?_
        repeat walk_at "rs"
        refine r_I (wide_mul (a := 110) (b := 210) (by omega) (by omega) (by decide) (by decide) (by decide)) ?_
        repeat walk_at "rs"
        refine ⟨by show 2 ≤ sizeLine; decide, fun t ht => ?_⟩
        have sT : Same h' (upd h' t (.tup [.int (p.1 * f), .int (p.2 * f)])) := Same.new ht
        refine q _ _ (sm.trans sT) (sT _ _ ha2) (fun j z _ r => ?_) ⟨(p.1 * f, p.2 * f), t, ?_, rfl, upd_same⟩
        · obtain ⟨p', a', g', e', t'⟩ := r
          exact ⟨p', a', g', e', t'.same sT⟩
        · unfold multF
          rw [List.getElem?_map, gp]
          rfl
      · rintro i y h acc acc' ha2 ⟨p, a, g, e, ta⟩
        refine ⟨p, a, g, e, ?_⟩
        have ne : a ≠ D2 := ne_of ta ha2 (by intro z; cases z)
        show upd h D2 _ a = _
        rw [upd_ne ne]
        exact ta
      · intro h acc sm ha2 hlen hF
        obtain ⟨as, rfl, pr⟩ := lotPairs (lot := multF f lot) (acc := acc) (by have := multF_len f lot; omega) hF
        exact k1 ft D2 h (s12.trans sm) (s12.free hD2) ⟨as, ha2, pr⟩
def spTimesL : Sp := fun vs H Q E => ∃ (m f : Int) (l : Addr) (lot : List (Int × Int)), vs = [.int m, .ref l, .int f] ∧ LotAt H l lot ∧ RingOk m lot ∧ 1 ≤ f ∧ f < 2 ^ 200 ∧
  (Fits m f lot → ∀ q H', Same H H' → H q = none → LotAt H' q (multF f lot) → Q (.ref q) H') ∧ (¬ Fits m f lot → ∀ H', Same H H' → Q .non H')
theorem ok_law_times (T : Tx K mg) : FnOk P w K mg base CX0 7 T.a_law_times T.d_law_times P_law_times spTimesL := by
  refine T.p_law_times.fn.ok sc_law_times (fun vs H Q E h => ?_) (fun cdv A outer s H vs Q E hr h => ?_)
  · obtain ⟨m, f, l, lot, rfl, _⟩ := h
    rfl
  · obtain ⟨m, f, l, lot, rfl, hl, R, f1, f2, k1, k2⟩ := h
    refine ⟨_, (pss_one (ps_try_only (tb := fun W => tRet (tCallS (spMult T.x_Impossible) (WE W) (tCons (tVar 0) (tCons (tVar 1) (tCons (tVar 2) tNil))))) (ts := fun _ _ _ => tRet (tC .non)) (Wout := fun _ _ _ _ => False) rfl rfl ⟨rfl, by decide, .inl T.X_Impossible.g⟩ L2.takes0 (fun W pn xe tk _ => by exact (pss_one (ps_ret (pe_callS (ok_multiplied T) (hr.mono (by decide)) (by rfl) T.p_multiplied.g T.p_multiplied.fn.kp T.p_multiplied.b (fun σ => passAt tk σ) (pa_cons (pv 0) (pa_cons (pv 1) (pa_cons (pv 2) pa_nil))))))) (fun a oe cls d pn hz hf => by exact (pss_one (ps_ret pe_non))))), ?_⟩
    repeat walk_at "rs"
    unfold tCallS
    repeat walk_at "rs"
    refine ⟨m, f, l, lot, rfl, hl, R, f1, f2, k1, fun nf H' s' => ?_⟩
    exact ⟨true, T.X_Impossible.me, fun _ a _ => k2 nf H' s', fun z => Bool.noConfusion z⟩
end
end R04
namespace R04
open PySem PySem.Spec PyProof.Rows L2 Rg
local macro_rules | `(tactic| walk_at "rs") => `(tactic| (first
  | with_reducible refine Rg.r_seq ?_ | with_reducible refine Rg.r_asg ?_ | with_reducible refine Rg.r_name ?_ | with_reducible refine Rg.r_drop ?_ | with_reducible refine Rg.r_ret ?_ | with_reducible refine Rg.r_next ?_
  | refine Rg.r_var rfl ?_ | with_reducible refine Rg.r_c ?_ | with_reducible refine Rg.r_op ?_ | with_reducible refine Rg.r_un ?_ | with_reducible refine Rg.r_rU ?_ | with_reducible refine Rg.r_I0 ?_
  | with_reducible refine Rg.r_eqI ?_ | with_reducible refine Rg.r_neI ?_ | with_reducible refine Rg.r_test ?_ | with_reducible refine Rg.r_B ?_ | with_reducible refine Rg.r_bl ?_ | with_reducible refine Rg.r_not ?_ | with_reducible refine Rg.r_and ?_ | with_reducible refine Rg.r_or ?_
  | with_reducible refine Rg.r_andV ?_ | with_reducible refine Rg.r_orV ?_ | with_reducible refine Rg.r_notV ?_ | with_reducible refine Rg.r_if ?_ | with_reducible refine Rg.r_ifE ?_ | with_reducible refine Rg.r_chain ?_
  | with_reducible refine Rg.r_cb ?_ | with_reducible refine Rg.r_call ?_ | with_reducible refine Rg.r_nil ?_ | with_reducible refine Rg.r_cons ?_ | with_reducible refine Rg.r_lst ?_ | with_reducible refine Rg.r_tup ?_ | with_reducible refine Rg.r_sl ?_ | with_reducible refine Rg.r_noP ?_ | with_reducible refine Rg.r_part ?_ | with_reducible refine Rg.r_int ?_
  | with_reducible refine Rg.r_intI ?_ | with_reducible refine Rg.r_intB ?_ | with_reducible refine Rg.r_abs2 ?_ | with_reducible refine Rg.r_mx2 ?_ | with_reducible refine Rg.r_mn2 ?_ | with_reducible refine Rg.r_sub ?_ | with_reducible refine Rg.r_par ?_ | with_reducible refine Rg.r_par2 ?_ | with_reducible refine Rg.r_bm ?_
  | with_reducible refine Rg.r_gcons ?_ | with_reducible refine Rg.r_gnil ?_ | refine Rg.r_aug rfl ?_ | with_reducible refine Rg.r_ip ?_ | with_reducible refine iteT ?_ | with_reducible refine iteF ?_
  | with_reducible refine Rg.r_par3 ?_ | with_reducible refine Rg.r_par3b ?_ | with_reducible refine Rg.r_kw ?_ | with_reducible refine Rg.r_rev0 ?_ | with_reducible refine Rg.r_revL ?_
  | with_reducible refine Rg.r_for ?_ | with_reducible refine Rg.r_lc ?_ | with_reducible refine Rg.r_ilist ?_ | with_reducible refine Rg.r_ienum ?_ | with_reducible refine Rg.r_izip ?_ | with_reducible refine Rg.r_irng1 ?_ | with_reducible refine Rg.r_irng2 ?_))
local macro_rules | `(tactic| walk_at "nm") => `(tactic| (try simp only [L2.start, List.map_cons, List.map_nil, List.length_cons, List.length_nil, List.replicate_succ, List.replicate_zero, List.cons_append, List.nil_append, List.set_cons_succ, List.set_cons_zero, Nat.reduceAdd, Nat.reduceSub, Nat.zero_add, Nat.add_zero]))
theorem mirF_mirF {w : Int} (hw : 1 ≤ w) {lot : List (Int × Int)} (h : ∀ p ∈ lot, 0 ≤ p.1 ∧ p.1 < w) : mirF w (mirF w lot) = lot := by
  unfold mirF
  rw [List.map_map]
  refine (List.map_congr_left fun p hp => ?_).trans (List.map_id lot)
  have := h p hp
  refine Prod.ext ?_ rfl
  show (0 - (0 - p.1 - p.2) % w - p.2) % w = p.1
  have e : 0 - (0 - p.1 - p.2) % w - p.2 = (0 - p.2) - (0 - p.1 - p.2) % w := by omega
  rw [e, Int.sub_emod, Int.emod_emod, ← Int.sub_emod]
  have e2 : 0 - p.2 - (0 - p.1 - p.2) = p.1 := by omega
  rw [e2]
  exact Int.emod_eq_of_lt this.1 this.2
theorem times_moved {w b x : Int} (p : Int × Int) : timesF w ((x + b) % w) ((p.1 + b) % w, p.2) = timesF w x p := by
  unfold timesF
  have e : ((x + b) % w - (p.1 + b) % w) % w = (x - p.1) % w := by
    rw [← Int.sub_emod]
    congr 1
    omega
  show (if ((x + b) % w - (p.1 + b) % w) % w < p.2 % w then _ else _) = _
  rw [e]
theorem cover_moved (w b x : Int) (lot : List (Int × Int)) : coverF w (movedF w b lot) ((x + b) % w) = coverF w lot x := by
  unfold coverF movedF
  rw [List.map_map]
  congr 1
  exact List.map_congr_left fun p _ => times_moved p
theorem times_mir {w x : Int} (hw : 1 ≤ w) (p : Int × Int) : timesF w ((0 - x - 1) % w) ((0 - p.1 - p.2) % w, p.2) = timesF w x p := by
  unfold timesF
  have e : ((0 - x - 1) % w - (0 - p.1 - p.2) % w) % w = (p.2 % w - 1 - (x - p.1) % w) % w := by
    rw [← Int.sub_emod]
    have a := Int.emod_add_mul_ediv p.2 w
    have b := Int.emod_add_mul_ediv (x - p.1) w
    have e2 : 0 - x - 1 - (0 - p.1 - p.2) = (p.2 % w - 1 - (x - p.1) % w) + w * (p.2 / w - (x - p.1) / w) := by
      rw [Int.mul_sub]
      omega
    rw [e2, Int.add_mul_emod_self_left]
  have u0 := Int.emod_nonneg (x - p.1) (b := w) (by omega)
  have u1 := Int.emod_lt_of_pos (x - p.1) (b := w) (by omega)
  have r0 := Int.emod_nonneg p.2 (b := w) (by omega)
  have r1 := Int.emod_lt_of_pos p.2 (b := w) (by omega)
  show (if ((0 - x - 1) % w - (0 - p.1 - p.2) % w) % w < p.2 % w then p.2 / w + 1 else p.2 / w) = _
  rw [e]
  by_cases c : (x - p.1) % w < p.2 % w
  · rw [Int.emod_eq_of_lt (a := p.2 % w - 1 - (x - p.1) % w) (by omega) (by omega), if_pos (by omega), if_pos c]
  · have e3 : (p.2 % w - 1 - (x - p.1) % w) % w = p.2 % w - 1 - (x - p.1) % w + w := by
      have z := Int.add_mul_emod_self_left (p.2 % w - 1 - (x - p.1) % w) w 1
      rw [← z, Int.mul_one]
      exact Int.emod_eq_of_lt (by omega) (by omega)
    rw [e3, if_neg (by omega), if_neg c]
theorem cover_mir {w : Int} (hw : 1 ≤ w) (x : Int) (lot : List (Int × Int)) : coverF w (mirF w lot) ((0 - x - 1) % w) = coverF w lot x := by
  unfold coverF mirF
  rw [List.map_map]
  congr 1
  exact List.map_congr_left fun p _ => times_mir hw p
theorem times_mult {w f s : Int} (hw : 1 ≤ w) (hf : 1 ≤ f) (p : Int × Int) : timesF (w * f) s (p.1 * f, p.2 * f) = timesF w (s / f) p := by
  unfold timesF
  have q := Int.emod_add_mul_ediv s f
  have t0 := Int.emod_nonneg s (b := f) (by omega)
  have t1 := Int.emod_lt_of_pos s (b := f) (by omega)
  have a := Int.emod_add_mul_ediv (s / f - p.1) w
  have u0 := Int.emod_nonneg (s / f - p.1) (b := w) (by omega)
  have u1 := Int.emod_lt_of_pos (s / f - p.1) (b := w) (by omega)
  have e1 : (s - p.1 * f) % (w * f) = ((s / f - p.1) % w) * f + s % f := by
    generalize hU : (s / f - p.1) % w = U at a u0 u1
    generalize hD : (s / f - p.1) / w = D at a
    generalize hT : s % f = T at q t0 t1
    have e2 : s - p.1 * f = (U * f + T) + (w * f) * D := by
      have e3 : (s / f - p.1) * f = (U + w * D) * f := by rw [a]
      rw [Int.sub_mul, Int.add_mul, Int.mul_comm (s / f) f] at e3
      have e4 : w * D * f = w * f * D := by rw [Int.mul_assoc, Int.mul_comm D f, ← Int.mul_assoc]
      rw [e4] at e3
      omega
    rw [e2, Int.add_mul_emod_self_left]
    have b1 : 0 ≤ U * f := Int.mul_nonneg u0 (by omega)
    have b2 : (U + 1) * f ≤ w * f := Int.mul_le_mul_of_nonneg_right (by omega) (by omega)
    rw [Int.add_mul, Int.one_mul] at b2
    exact Int.emod_eq_of_lt (by omega) (by omega)
  have e2 : (p.2 * f) % (w * f) = (p.2 % w) * f := by
    rw [Int.mul_comm p.2 f, Int.mul_comm w f, Int.mul_emod_mul_of_pos _ _ (by omega), Int.mul_comm]
  have e3 : (p.2 * f) / (w * f) = p.2 / w := by
    rw [Int.mul_comm p.2 f, Int.mul_comm w f, Int.mul_ediv_mul_of_pos _ _ (by omega)]
  show (if (s - p.1 * f) % (w * f) < (p.2 * f) % (w * f) then (p.2 * f) / (w * f) + 1 else (p.2 * f) / (w * f)) = _
  rw [e1, e2, e3]
  by_cases c : (s / f - p.1) % w < p.2 % w
  · have b2 : ((s / f - p.1) % w + 1) * f ≤ (p.2 % w) * f := Int.mul_le_mul_of_nonneg_right (by omega) (by omega)
    rw [Int.add_mul, Int.one_mul] at b2
    rw [if_pos (by omega), if_pos c]
  · have b2 : (p.2 % w) * f ≤ ((s / f - p.1) % w) * f := Int.mul_le_mul_of_nonneg_right (by omega) (by omega)
    rw [if_neg (by omega), if_neg c]
theorem cover_mult {w f : Int} (hw : 1 ≤ w) (hf : 1 ≤ f) (s : Int) (lot : List (Int × Int)) : coverF (w * f) (multF f lot) s = coverF w lot (s / f) := by
  unfold coverF multF
  rw [List.map_map]
  congr 1
  exact List.map_congr_left fun p _ => times_mult hw hf p
theorem movedF_len (w b : Int) (lot : List (Int × Int)) : (movedF w b lot).length = lot.length := by
  unfold movedF
  exact List.length_map _
theorem ring_moved {w b : Int} {lot : List (Int × Int)} (R : RingOk w lot) : RingOk w (movedF w b lot) := by
  have w1 := R.w1
  refine ⟨R.w1, R.w2, by rw [movedF_len]; exact R.n1, by rw [movedF_len]; exact R.n2, fun p hp => ?_⟩
  unfold movedF at hp
  obtain ⟨q, hq, rfl⟩ := List.mem_map.mp hp
  have := R.rc q hq
  exact ⟨Int.emod_nonneg _ (by omega), Int.emod_lt_of_pos _ (by omega), this.2.2.1, this.2.2.2⟩
theorem ring_mir {w : Int} {lot : List (Int × Int)} (R : RingOk w lot) : RingOk w (mirF w lot) := by
  have w1 := R.w1
  refine ⟨R.w1, R.w2, by rw [mirF_len]; exact R.n1, by rw [mirF_len]; exact R.n2, fun p hp => ?_⟩
  unfold mirF at hp
  obtain ⟨q, hq, rfl⟩ := List.mem_map.mp hp
  have := R.rc q hq
  exact ⟨Int.emod_nonneg _ (by omega), Int.emod_lt_of_pos _ (by omega), this.2.2.1, this.2.2.2⟩
theorem ring_mult {w f : Int} {lot : List (Int × Int)} (R : RingOk w lot) (hf : 1 ≤ f) (F : Fits w f lot) : RingOk (w * f) (multF f lot) := by
  have w1 := R.w1
  have wf : 1 * f ≤ w * f := Int.mul_le_mul_of_nonneg_right w1 (by omega)
  refine ⟨by omega, F.1, by rw [multF_len]; exact R.n1, by rw [multF_len]; exact R.n2, fun p hp => ?_⟩
  unfold multF at hp
  obtain ⟨q, hq, rfl⟩ := List.mem_map.mp hp
  have r := R.rc q hq
  have a1 : 0 ≤ q.1 * f := Int.mul_nonneg r.1 (by omega)
  have a2 : (q.1 + 1) * f ≤ w * f := Int.mul_le_mul_of_nonneg_right (by have := r.2.1; omega) (by omega)
  rw [Int.add_mul, Int.one_mul] at a2
  have a3 : 1 * f ≤ q.2 * f := Int.mul_le_mul_of_nonneg_right r.2.2.1 (by omega)
  exact ⟨a1, by show q.1 * f < w * f; omega, by show 1 ≤ q.2 * f; omega, F.2 q hq⟩
end R04
namespace R04
open PySem PySem.Spec PyProof.Rows L2 Rg
local macro_rules | `(tactic| walk_at "rs") => `(tactic| (first
  | with_reducible refine Rg.r_seq ?_ | with_reducible refine Rg.r_asg ?_ | with_reducible refine Rg.r_name ?_ | with_reducible refine Rg.r_drop ?_ | with_reducible refine Rg.r_ret ?_ | with_reducible refine Rg.r_next ?_
  | refine Rg.r_var rfl ?_ | with_reducible refine Rg.r_c ?_ | with_reducible refine Rg.r_op ?_ | with_reducible refine Rg.r_un ?_ | with_reducible refine Rg.r_rU ?_ | with_reducible refine Rg.r_I0 ?_
  | with_reducible refine Rg.r_eqI ?_ | with_reducible refine Rg.r_neI ?_ | with_reducible refine Rg.r_test ?_ | with_reducible refine Rg.r_B ?_ | with_reducible refine Rg.r_bl ?_ | with_reducible refine Rg.r_not ?_ | with_reducible refine Rg.r_and ?_ | with_reducible refine Rg.r_or ?_
  | with_reducible refine Rg.r_andV ?_ | with_reducible refine Rg.r_orV ?_ | with_reducible refine Rg.r_notV ?_ | with_reducible refine Rg.r_if ?_ | with_reducible refine Rg.r_ifE ?_ | with_reducible refine Rg.r_chain ?_
  | with_reducible refine Rg.r_cb ?_ | with_reducible refine Rg.r_call ?_ | with_reducible refine Rg.r_nil ?_ | with_reducible refine Rg.r_cons ?_ | with_reducible refine Rg.r_lst ?_ | with_reducible refine Rg.r_tup ?_ | with_reducible refine Rg.r_sl ?_ | with_reducible refine Rg.r_noP ?_ | with_reducible refine Rg.r_part ?_ | with_reducible refine Rg.r_int ?_
  | with_reducible refine Rg.r_intI ?_ | with_reducible refine Rg.r_intB ?_ | with_reducible refine Rg.r_abs2 ?_ | with_reducible refine Rg.r_mx2 ?_ | with_reducible refine Rg.r_mn2 ?_ | with_reducible refine Rg.r_sub ?_ | with_reducible refine Rg.r_par ?_ | with_reducible refine Rg.r_par2 ?_ | with_reducible refine Rg.r_bm ?_
  | with_reducible refine Rg.r_gcons ?_ | with_reducible refine Rg.r_gnil ?_ | refine Rg.r_aug rfl ?_ | with_reducible refine Rg.r_ip ?_ | with_reducible refine iteT ?_ | with_reducible refine iteF ?_
  | with_reducible refine Rg.r_par3 ?_ | with_reducible refine Rg.r_par3b ?_ | with_reducible refine Rg.r_kw ?_ | with_reducible refine Rg.r_rev0 ?_ | with_reducible refine Rg.r_revL ?_
  | with_reducible refine Rg.r_for ?_ | with_reducible refine Rg.r_lc ?_ | with_reducible refine Rg.r_ilist ?_ | with_reducible refine Rg.r_ienum ?_ | with_reducible refine Rg.r_izip ?_ | with_reducible refine Rg.r_irng1 ?_ | with_reducible refine Rg.r_irng2 ?_))
local macro_rules | `(tactic| walk_at "nm") => `(tactic| (try simp only [L2.start, List.map_cons, List.map_nil, List.length_cons, List.length_nil, List.replicate_succ, List.replicate_zero, List.cons_append, List.nil_append, List.set_cons_succ, List.set_cons_zero, Nat.reduceAdd, Nat.reduceSub, Nat.zero_add, Nat.add_zero]))
theorem at5b {f r : Int} (h0 : 0 ≤ r) (h1 : r < 5) : ∃ v : Int, atI [V.int 0, V.int 1, V.int (-1), V.int f, V.int (0 - f)] r = some (.int v) := by
  rcases (show r = 0 ∨ r = 1 ∨ r = 2 ∨ r = 3 ∨ r = 4 by omega) with rfl | rfl | rfl | rfl | rfl
  · exact ⟨_, rfl⟩
  · exact ⟨_, rfl⟩
  · exact ⟨_, rfl⟩
  · exact ⟨_, rfl⟩
  · exact ⟨_, rfl⟩
theorem sx_free {a q : Addr} {H H' : Hp} (k : Sx a H H') (n : H' q = none) (ne : q ≠ a) : H q = none := by
  cases e : H q with
  | none => rfl
  | some o =>
    rw [k q o ne e] at n
    cases n
theorem LotAt.put {G : Hp} {D q : Addr} {lot : List (Int × Int)} {xs ys : List V} (h : LotAt G D lot) (e : G q = some (.lst xs)) (n : D ≠ q) : LotAt (upd G q (.lst ys)) D lot := by
  obtain ⟨as, ed, pr⟩ := h
  refine ⟨as, (upd_ne n).trans ed, Paired.mapP pr fun t p ht => ?_⟩
  have ne : t ≠ q := ne_of ht e (by intro z; cases z)
  exact (upd_ne ne).trans ht
theorem Wd.put {a l q : Addr} {lot : List (Int × Int)} {H0 G : Hp} {M : Nat} {xs ys : List V} (h : Wd a l lot H0 M G) (e : G q = some (.lst xs)) (n : l ≠ q) (na : q ≠ a) (f : H0 q = none) : Wd a l lot H0 M (upd G q (.lst ys)) := by
  refine ⟨h.lt.put e n, fun c o nc ec => (upd_ne (ne_of_none ec f)).trans (h.sx c o nc ec), ?_⟩
  obtain ⟨x, y, z, ea, r⟩ := h.sr
  exact ⟨x, y, z, (upd_ne na.symm).trans ea, r⟩
section
variable {P : Program} {w : World} {K : PySem.W.Frag} {mg : Str → Option Value} {base : Heap}
def spRightM : Sp := fun vs H Q _ => ∃ (a l : Addr) (wd : Int) (lot : List (Int × Int)) (N : Nat), vs = [.ref a, .int wd, .ref l] ∧ Src a N H ∧ LotAt H l lot ∧ RingOk wd lot ∧ l ≠ a ∧ N + 200 < 10 ^ 9 ∧
  ∀ H', Sx a H H' → Src a (N + 20) H' → Q (.bl true) H'
theorem ok_law_right (T : Tx K mg) : FnG P w K mg base CX0 7 T.a_law_right T.d_law_right P_law_right spRightM := by
  refine fnG_of T.p_law_right.fn sc_law_right (fun vs H Q E h => ?_) (fun cdv A outer s H vs Q E hg hr h => ?_)
  · obtain ⟨a, l, wd, lot, N, rfl, _⟩ := h
    rfl
  · obtain ⟨a, l, wd, lot, N, rfl, hs, hl, R, nla, hN, k⟩ := h
    have n1 := R.n1
    have n2 := R.n2
    have w1 := R.w1
    have w2 := R.w2
    have W0 : Wd a l lot H N H := ⟨hl, Sx.refl _ _, hs⟩
    have nlot := nice_lotR (w := wd) w2 (by omega) R.rc
    refine ⟨_, (pss_cons (ps_par (i := 3) (j := 4) rfl sc_law_right.nd rfl rfl (by decide) rfl rfl (pa_cons (pe_callB (call_reprV hg (hu64 hr)) (by rfl) T.n_repr (by rfl) (pa_cons (pv 2) pa_nil)) (pa_cons (pe_call (ok_law_draw T) (hr.mono (by decide)) (by rfl) T.p_law_draw.g T.p_law_draw.fn.kp T.p_law_draw.b .nil pass0 (pa_cons (pv 0) (pa_cons (pe_op op_powW pe_int pe_int) pa_nil))) pa_nil)) (by rfl))
      (pss_cons (ps_set (i := 5) sc_law_right.nd rfl (.inr rfl) (pe_ix ix_list (pe_lst (pa_cons pe_int (pa_cons pe_int (pa_cons (pe_un un_neg pe_int) (pa_cons (pv 4) (pa_cons (pe_op op_sub pe_int (pv 4)) pa_nil)))))) (pe_call (ok_law_draw T) (hr.mono (by decide)) (by rfl) T.p_law_draw.g T.p_law_draw.fn.kp T.p_law_draw.b .nil pass0 (pa_cons (pv 0) (pa_cons pe_int pa_nil))) (fun _ _ => rfl)))
      (pss_cons (ps_setLc (i := 6) (own := [("at", 11), ("size", 12)]) (tt := tYes) rfl sc_law_right.nd rfl rfl (sw_true rfl rfl rfl (by decide +kernel)) (pi_list (pv 2)) (blkOk_by (N := N_law_right) (sc := defScope s_law_right) (by decide +kernel)) (fun _ _ _ _ _ => by exact (pg_tupK (n := 2) (K := K) rfl rfl (pgs_cons (pg_name (i := 11) sc_law_right.nd rfl (.inl rfl)) (pgs_cons (pg_name (i := 12) sc_law_right.nd rfl (.inl rfl)) pgs_nil)))) (fun _ _ _ _ _ => pts_nil) (fun _ _ _ _ _ => by exact (pe_tup (pa_cons (pe_op op_mod (pe_callTy call_intI (by rfl) T.n_int (by rfl) (pa_cons (pe_op op_add (pv 11) (pv 5)) pa_nil)) (pv 1)) (pa_cons (pv 12) pa_nil)))))
      (pss_cons (ps_set (i := 7) sc_law_right.nd rfl (.inl rfl) (pe_lst (pa_cons (pe_call (ok_moved T) (hr.mono (by decide)) (by rfl) T.p_moved.g T.p_moved.fn.kp T.p_moved.b .nil pass0 (pa_cons (pv 1) (pa_cons (pv 2) (pa_cons (pv 5) pa_nil)))) (pa_cons (pe_kw (ok_moved T) (hr.mono (by decide)) (by rfl) T.p_moved.g T.p_moved.fn.kp T.kb0_moved pass0 (pk_cons (pv 5) (pk_cons (pv 2) (pk_cons (pv 1) pk_nil)))) pa_nil))))
      (pss_cons (ps_if (pt_cmpR op_ne (pe_callB (call_reprV hg (hu64 hr)) (by rfl) T.n_repr (by rfl) (pa_cons (pv 7) pa_nil)) (pe_callB (call_reprV hg (hu64 hr)) (by rfl) T.n_repr (by rfl) (pa_cons (pe_lst (pa_cons (pv 6) (pa_cons (pv 6) pa_nil))) pa_nil)) (nomark _)) (pss_one (ps_ret pe_bl)) pss_nil)
      (pss_cons (ps_setLc (i := 8) (own := [("at", 11), ("size", 12)]) (tt := tYes) rfl sc_law_right.nd rfl rfl (sw_true rfl rfl rfl (by decide +kernel)) (pi_list (pv 2)) (blkOk_by (N := N_law_right) (sc := defScope s_law_right) (by decide +kernel)) (fun _ _ _ _ _ => by exact (pg_tupK (n := 2) (K := K) rfl rfl (pgs_cons (pg_name (i := 11) sc_law_right.nd rfl (.inl rfl)) (pgs_cons (pg_name (i := 12) sc_law_right.nd rfl (.inl rfl)) pgs_nil)))) (fun _ _ _ _ _ => pts_nil) (fun _ _ _ _ _ => by exact (pe_tup (pa_cons (pe_op op_mod (pe_callTy call_intI (by rfl) T.n_int (by rfl) (pa_cons (pe_op op_sub (pe_op op_sub pe_int (pv 11)) (pv 12)) pa_nil)) (pv 1)) (pa_cons (pv 12) pa_nil)))))
      (pss_cons (ps_set (i := 9) sc_law_right.nd rfl (.inl rfl) (pe_lst (pa_cons (pe_call (ok_mirrored T) (hr.mono (by decide)) (by rfl) T.p_mirrored.g T.p_mirrored.fn.kp T.p_mirrored.b .nil pass0 (pa_cons (pv 1) (pa_cons (pv 2) pa_nil))) (pa_cons (pe_kw (ok_mirrored T) (hr.mono (by decide)) (by rfl) T.p_mirrored.g T.p_mirrored.fn.kp T.kb1_mirrored pass0 (pk_cons (pv 2) (pk_cons (pv 1) pk_nil))) pa_nil))))
      (pss_cons (ps_if (pw_or (pt_cmpR op_ne (pe_callB (call_reprV hg (hu64 hr)) (by rfl) T.n_repr (by rfl) (pa_cons (pv 9) pa_nil)) (pe_callB (call_reprV hg (hu64 hr)) (by rfl) T.n_repr (by rfl) (pa_cons (pe_lst (pa_cons (pv 8) (pa_cons (pv 8) pa_nil))) pa_nil)) (nomark _)) (pw_or (pt_cmpR (op_neD (hu64 hr)) (pe_call (ok_mirrored T) (hr.mono (by decide)) (by rfl) T.p_mirrored.g T.p_mirrored.fn.kp T.p_mirrored.b .nil pass0 (pa_cons (pv 1) (pa_cons (pv 8) pa_nil))) (pv 2) (nomark _)) (pw_or1 (pt_cmpR op_ne (pe_callB (call_reprV hg (hu64 hr)) (by rfl) T.n_repr (by rfl) (pa_cons (pv 2) pa_nil)) (pv 3) (nomark _))))).pt (pss_one (ps_ret pe_bl)) pss_nil)
      (pss_cons (ps_set (i := 10) sc_law_right.nd rfl (.inl rfl) (pe_call (ok_law_draw T) (hr.mono (by decide)) (by rfl) T.p_law_draw.g T.p_law_draw.fn.kp T.p_law_draw.b .nil pass0 (pa_cons (pv 0) (pa_cons (pv 1) pa_nil))))
      (pss_cons (ps_if (pt_cmpR op_ne (pe_call (ok_cover_at T) (hr.mono (by decide)) (by rfl) T.p_cover_at.g T.p_cover_at.fn.kp T.p_cover_at.b .nil pass0 (pa_cons (pv 1) (pa_cons (pv 6) (pa_cons (pe_op op_mod (pe_callTy call_intI (by rfl) T.n_int (by rfl) (pa_cons (pe_op op_add (pv 10) (pv 5)) pa_nil)) (pv 1)) pa_nil)))) (pe_call (ok_cover_at T) (hr.mono (by decide)) (by rfl) T.p_cover_at.g T.p_cover_at.fn.kp T.p_cover_at.b .nil pass0 (pa_cons (pv 1) (pa_cons (pv 2) (pa_cons (pv 10) pa_nil)))) (nomark _)) (pss_one (ps_ret pe_bl)) pss_nil)
      (pss_cons (ps_if (pt_cmpR op_ne (pe_call (ok_cover_at T) (hr.mono (by decide)) (by rfl) T.p_cover_at.g T.p_cover_at.fn.kp T.p_cover_at.b .nil pass0 (pa_cons (pv 1) (pa_cons (pv 8) (pa_cons (pe_op op_mod (pe_callTy call_intI (by rfl) T.n_int (by rfl) (pa_cons (pe_op op_sub (pe_op op_sub pe_int (pv 10)) pe_int) pa_nil)) (pv 1)) pa_nil)))) (pe_call (ok_cover_at T) (hr.mono (by decide)) (by rfl) T.p_cover_at.g T.p_cover_at.fn.kp T.p_cover_at.b .nil pass0 (pa_cons (pv 1) (pa_cons (pv 2) (pa_cons (pv 10) pa_nil)))) (nomark _)) (pss_one (ps_ret pe_bl)) pss_nil)
      (pss_cons (ps_expr (pe_bm PySem.F.plainAttrs_list PySem.F.slot_list_append PySem.F.type_list_append mt_append (pe_ix ix_list (pv 7) pe_int (fun _ _ => rfl)) (pa_cons pe_int pa_nil)))
      (pss_cons (ps_expr (pe_bm PySem.F.plainAttrs_list PySem.F.slot_list_append PySem.F.type_list_append mt_append (pe_ix ix_list (pv 9) pe_int (fun _ _ => rfl)) (pa_cons pe_int pa_nil)))
      (pss_one (ps_ret (pe_and (pe_cmpR (op_eqD (hu64 hr)) (pe_call (ok_moved T) (hr.mono (by decide)) (by rfl) T.p_moved.g T.p_moved.fn.kp T.p_moved.b .nil pass0 (pa_cons (pv 1) (pa_cons (pv 2) (pa_cons (pv 5) pa_nil)))) (pv 6) (nomark _)) (pe_one (pe_cmpR (op_eqD (hu64 hr)) (pe_call (ok_mirrored T) (hr.mono (by decide)) (by rfl) T.p_mirrored.g T.p_mirrored.fn.kp T.p_mirrored.b .nil pass0 (pa_cons (pv 1) (pa_cons (pv 2) pa_nil))) (pv 8) (nomark _))))))))))))))))))), ?_⟩
    repeat walk_at "rs"
    refine r_reprV (dp_lot hl) (nlot.repr (by decide) (by decide)) ?_
    repeat walk_at "rs"
    refine r_I (cpow 44 (by decide) (n := 10) (by decide) (by decide)) ?_
    repeat walk_at "rs"
    refine ⟨a, _, _, rfl, W0.sr, by decide, smallc (by decide), by omega, fun far H1 f0 f1 sx1 sr1 => ?_⟩
    have W1 := W0.draw nla sx1 sr1
    repeat walk_at "rs"
    walk_at "nm"
    repeat walk_at "rs"
    refine ⟨by show 5 ≤ sizeLine; decide, fun p5 hp5 => ?_⟩
    have np5 := W1.ne hp5
    have S2 := Same.new (o := HO.lst [.int 0, .int 1, .int (-1), .int far, .int (0 - far)]) hp5
    have W2 := W1.same S2
    have e5 : (upd H1 p5 (.lst [.int 0, .int 1, .int (-1), .int far, .int (0 - far)])) p5 = some (.lst [.int 0, .int 1, .int (-1), .int far, .int (0 - far)]) := upd_same
    revert W2 e5
    generalize upd H1 p5 (.lst [.int 0, .int 1, .int (-1), .int far, .int (0 - far)]) = H2
    intro W2 e5
    repeat walk_at "rs"
    refine ⟨a, 5, _, rfl, W2.sr, by decide, smallc (by decide), by omega, fun r5 H3 r0 r1 sx3 sr3 => ?_⟩
    have W3 := W2.draw nla sx3 sr3
    obtain ⟨step, hst⟩ := at5b (f := far) r0 r1
    refine r_ixL (sqe (sx3 _ _ np5 e5)) hst ?_
    clear e5 S2 hst
    repeat walk_at "rs"
    walk_at "nm"
    repeat walk_at "rs"
    -- due
    obtain ⟨xs, hx, hn⟩ := W3.lt.seq
    refine ⟨l, rfl, ⟨xs, sqe hx⟩, fun D hD => ?_⟩
    have kD : ∀ (h : Hp) (acc' : List V), Same H3 h → Same H3 (upd h D (.lst acc')) := fun h acc' q => same_keep hD q
    refine lc_gen xs.length (by omega) (fun i h => Same H3 h) (fun i v h => ∃ p a, (movedF wd step lot)[i]? = some p ∧ v = V.ref a ∧ TupAt h a p) hD (kD _ _ (Same.refl _)) (fun i h acc acc' _ q => kD _ _ q) ?_ ?_ ?_ ?_ ?_
    · intro h sm
      exact ⟨xs, sqe (sm _ _ hx), Nat.le_refl _⟩
    · intro i h hi sm
      exact go_list (sqe (sm _ _ hx)) hi
    · rintro i h x h' acc Q' hi sm ha ⟨rfl, g1⟩ q
      obtain ⟨b, p, rfl, gp, ta⟩ := lot_item (W3.lt.same sm) (sm _ _ hx) (g1 _ (sqe (sm _ _ hx)))
      refine r_gtup (ste ta) rfl ?_
      repeat walk_at "rs"
      refine ⟨rfl, ?_⟩
      repeat walk_at "rs"
      refine r_I (by omega) ?_
      repeat walk_at "rs"
      refine ⟨by show 2 ≤ sizeLine; decide, fun t ht => ?_⟩
      have sT : Same h' (upd h' t (.tup [.int ((p.1 + step) % wd), .int p.2])) := Same.new ht
      refine q _ _ (sm.trans sT) (sT _ _ ha) (fun j z _ r => ?_) ⟨((p.1 + step) % wd, p.2), t, ?_, rfl, upd_same⟩
      · obtain ⟨p', a', g', e', t'⟩ := r
        exact ⟨p', a', g', e', t'.same sT⟩
      · unfold movedF
        rw [List.getElem?_map, gp]
        rfl
    · rintro i y h acc acc' ha ⟨p, b, g, e, ta⟩
      refine ⟨p, b, g, e, ?_⟩
      have ne : b ≠ D := ne_of ta ha (by intro z; cases z)
      show upd h D _ b = _
      rw [upd_ne ne]
      exact ta
    intro H4 acc s4 ha hlen hF
    obtain ⟨as, rfl, pr⟩ := lotPairs (lot := movedF wd step lot) (acc := acc) (by have := movedF_len wd step lot; omega) hF
    have lD : LotAt H4 D (movedF wd step lot) := ⟨as, ha, pr⟩
    have nDa := W3.ne hD
    have W4 := W3.same s4
    clear hF hlen hx hn kD ha pr W0 W1 W2
    have Rv := ring_moved (b := step) R
    have nv := nice_lotR (w := wd) w2 (by rw [movedF_len]; omega) Rv.rc
    repeat walk_at "rs"
    walk_at "nm"
    repeat walk_at "rs"
    -- told
    refine ⟨wd, step, l, lot, rfl, W4.lt, R, fun q1 H5 s5 hq1 lq1 => ?_⟩
    have W5 := W4.same s5
    have lD5 := lD.same s5
    have nq1 := W4.ne hq1
    have nDq1 : D ≠ q1 := by
      obtain ⟨as, e, _⟩ := lD
      exact ne_of_none e hq1
    have nlq1 : l ≠ q1 := by
      obtain ⟨as, e, _⟩ := W4.lt
      exact ne_of_none e hq1
    have fq1 : H q1 = none := sx_free W4.sx hq1 nq1
    repeat walk_at "rs"
    refine ⟨wd, step, l, lot, rfl, W5.lt, R, fun q2 H6 s6 hq2 lq2 => ?_⟩
    have W6 := W5.same s6
    have lD6 := lD5.same s6
    have lq16 := lq1.same s6
    repeat walk_at "rs"
    refine ⟨by show 2 ≤ sizeLine; decide, fun td htd => ?_⟩
    have ntd := W6.ne htd
    have nq1td : q1 ≠ td := by
      obtain ⟨as, e, _⟩ := lq16
      exact ne_of_none e htd
    have S7 := Same.new (o := HO.lst [.ref q1, .ref q2]) htd
    have W7 := W6.same S7
    have etd : (upd H6 td (.lst [.ref q1, .ref q2])) td = some (.lst [.ref q1, .ref q2]) := upd_same
    have lD7 := lD6.same S7
    have lq17 := lq16.same S7
    have lq27 := lq2.same S7
    revert W7 etd lD7 lq17 lq27
    generalize upd H6 td (.lst [.ref q1, .ref q2]) = H7
    intro W7 etd lD7 lq17 lq27
    clear S7 lD lD5 lD6 lq1 lq16 lq2
    repeat walk_at "rs"
    walk_at "nm"
    repeat walk_at "rs"
    have nv2 : Nice (.list [lotD (movedF wd step lot), lotD (movedF wd step lot)]) 3 20000 := (nice_list2 nv nv).mono (by decide) (by decide)
    refine r_reprV (dp_list2 etd (dp_lot lq17) (dp_lot lq27)) (nv2.repr (by decide) (by decide)) ?_
    repeat walk_at "rs"
    refine ⟨by show 2 ≤ sizeLine; decide, fun p6 hp6 => ?_⟩
    have S8 := Same.new (o := HO.lst [.ref D, .ref D]) hp6
    have W8 := W7.same S8
    have e6 : (upd H7 p6 (.lst [.ref D, .ref D])) p6 = some (.lst [.ref D, .ref D]) := upd_same
    have etd8 := S8 _ _ etd
    have lD8 := lD7.same S8
    have lq18 := lq17.same S8
    revert W8 e6 etd8 lD8 lq18
    generalize upd H7 p6 (.lst [.ref D, .ref D]) = H8
    intro W8 e6 etd8 lD8 lq18
    clear S8 lq27 lq17 lD7 etd W7 W6 W5 W4
    repeat walk_at "rs"
    refine r_reprV (dp_list2 e6 (dp_lot lD8) (dp_lot lD8)) (nv2.repr (by decide) (by decide)) ?_
    repeat walk_at "rs"
    refine r_neSS ?_
    repeat walk_at "rs"
    -- other
    obtain ⟨xs, hx, hn⟩ := W8.lt.seq
    refine ⟨l, rfl, ⟨xs, sqe hx⟩, fun D2 hD2 => ?_⟩
    have kD : ∀ (h : Hp) (acc' : List V), Same H8 h → Same H8 (upd h D2 (.lst acc')) := fun h acc' q => same_keep hD2 q
    refine lc_gen xs.length (by omega) (fun i h => Same H8 h) (fun i v h => ∃ p a, (mirF wd lot)[i]? = some p ∧ v = V.ref a ∧ TupAt h a p) hD2 (kD _ _ (Same.refl _)) (fun i h acc acc' _ q => kD _ _ q) ?_ ?_ ?_ ?_ ?_
    · intro h sm
      exact ⟨xs, sqe (sm _ _ hx), Nat.le_refl _⟩
    · intro i h hi sm
      exact go_list (sqe (sm _ _ hx)) hi
    · rintro i h x h' acc Q' hi sm ha ⟨rfl, g1⟩ q
      obtain ⟨b, p, rfl, gp, ta⟩ := lot_item (W8.lt.same sm) (sm _ _ hx) (g1 _ (sqe (sm _ _ hx)))
      refine r_gtup (ste ta) rfl ?_
      repeat walk_at "rs"
      refine ⟨rfl, ?_⟩
      repeat walk_at "rs"
      refine r_I (by omega) ?_
      repeat walk_at "rs"
      refine ⟨by show 2 ≤ sizeLine; decide, fun t ht => ?_⟩
      have sT : Same h' (upd h' t (.tup [.int ((0 - p.1 - p.2) % wd), .int p.2])) := Same.new ht
      refine q _ _ (sm.trans sT) (sT _ _ ha) (fun j z _ r => ?_) ⟨((0 - p.1 - p.2) % wd, p.2), t, ?_, rfl, upd_same⟩
      · obtain ⟨p', a', g', e', t'⟩ := r
        exact ⟨p', a', g', e', t'.same sT⟩
      · unfold mirF
        rw [List.getElem?_map, gp]
        rfl
    · rintro i y h acc acc' ha ⟨p, b, g, e, ta⟩
      refine ⟨p, b, g, e, ?_⟩
      have ne : b ≠ D2 := ne_of ta ha (by intro z; cases z)
      show upd h D2 _ b = _
      rw [upd_ne ne]
      exact ta
    intro H9 acc s9 ha hlen hF
    obtain ⟨as, rfl, pr⟩ := lotPairs (lot := mirF wd lot) (acc := acc) (by have := mirF_len wd lot; omega) hF
    have lO : LotAt H9 D2 (mirF wd lot) := ⟨as, ha, pr⟩
    have nD2a := W8.ne hD2
    have nq1D2 : q1 ≠ D2 := by
      obtain ⟨as, e, _⟩ := lq18
      exact ne_of_none e hD2
    have W9 := W8.same s9
    have lD9 := lD8.same s9
    have lq19 := lq18.same s9
    have etd9 := s9 _ _ etd8
    clear hF hlen hx hn kD ha pr lD8 lq18 etd8 e6
    have Rr := ring_mir R
    have nr := nice_lotR (w := wd) w2 (by rw [mirF_len]; omega) Rr.rc
    repeat walk_at "rs"
    walk_at "nm"
    repeat walk_at "rs"
    -- turned
    refine ⟨wd, l, lot, rfl, W9.lt, R, fun t1 HA sA ht1 lt1 => ?_⟩
    have nt1a := W9.ne ht1
    have nDt1 : D ≠ t1 := by
      obtain ⟨as, e, _⟩ := lD9
      exact ne_of_none e ht1
    have nD2t1 : D2 ≠ t1 := by
      obtain ⟨as, e, _⟩ := lO
      exact ne_of_none e ht1
    have nlt1 : l ≠ t1 := by
      obtain ⟨as, e, _⟩ := W9.lt
      exact ne_of_none e ht1
    have nq1t1 : q1 ≠ t1 := by
      obtain ⟨as, e, _⟩ := lq19
      exact ne_of_none e ht1
    have ft1 : H t1 = none := sx_free W9.sx ht1 nt1a
    have WA := W9.same sA
    have lDA := lD9.same sA
    have lOA := lO.same sA
    have lq1A := lq19.same sA
    have etdA := sA _ _ etd9
    repeat walk_at "rs"
    refine ⟨wd, l, lot, rfl, WA.lt, R, fun t2 HB sB ht2 lt2 => ?_⟩
    have WB := WA.same sB
    have lDB := lDA.same sB
    have lOB := lOA.same sB
    have lq1B := lq1A.same sB
    have lt1B := lt1.same sB
    have etdB := sB _ _ etdA
    repeat walk_at "rs"
    refine ⟨by show 2 ≤ sizeLine; decide, fun tu htu => ?_⟩
    have ntua := WB.ne htu
    have nq1tu : q1 ≠ tu := by
      obtain ⟨as, e, _⟩ := lq1B
      exact ne_of_none e htu
    have SC := Same.new (o := HO.lst [.ref t1, .ref t2]) htu
    have WC := WB.same SC
    have etu : (upd HB tu (.lst [.ref t1, .ref t2])) tu = some (.lst [.ref t1, .ref t2]) := upd_same
    have lDC := lDB.same SC
    have lOC := lOB.same SC
    have lq1C := lq1B.same SC
    have lt1C := lt1B.same SC
    have lt2C := lt2.same SC
    have etdC := SC _ _ etdB
    revert WC etu lDC lOC lq1C lt1C lt2C etdC
    generalize upd HB tu (.lst [.ref t1, .ref t2]) = HC
    intro WC etu lDC lOC lq1C lt1C lt2C etdC
    clear SC etdB lt1B lq1B lOB lDB WB etdA lq1A lOA lDA WA lt1 lt2 W9 lD9 lq19 etd9 lO
    repeat walk_at "rs"
    walk_at "nm"
    repeat walk_at "rs"
    have nr2 : Nice (.list [lotD (mirF wd lot), lotD (mirF wd lot)]) 3 20000 := (nice_list2 nr nr).mono (by decide) (by decide)
    refine r_reprV (dp_list2 etu (dp_lot lt1C) (dp_lot lt2C)) (nr2.repr (by decide) (by decide)) ?_
    repeat walk_at "rs"
    refine ⟨by show 2 ≤ sizeLine; decide, fun p7 hp7 => ?_⟩
    have SE := Same.new (o := HO.lst [.ref D2, .ref D2]) hp7
    have WE := WC.same SE
    have e7 : (upd HC p7 (.lst [.ref D2, .ref D2])) p7 = some (.lst [.ref D2, .ref D2]) := upd_same
    have lDE := lDC.same SE
    have lOE := lOC.same SE
    have lq1E := lq1C.same SE
    have lt1E := lt1C.same SE
    have etdE := SE _ _ etdC
    have etuE := SE _ _ etu
    revert WE e7 lDE lOE lq1E lt1E etdE etuE
    generalize upd HC p7 (.lst [.ref D2, .ref D2]) = HE
    intro WE e7 lDE lOE lq1E lt1E etdE etuE
    clear SE WC etu lDC lOC lq1C lt1C lt2C etdC
    repeat walk_at "rs"
    refine r_reprV (dp_list2 e7 (dp_lot lOE) (dp_lot lOE)) (nr2.repr (by decide) (by decide)) ?_
    repeat walk_at "rs"
    refine r_neSS ?_
    repeat walk_at "rs"
    refine ⟨wd, D2, mirF wd lot, rfl, lOE, Rr, fun q3 HF sF hq3 lq3 => ?_⟩
    rw [mirF_mirF w1 fun p hp => ⟨(R.rc p hp).1, (R.rc p hp).2.1⟩] at lq3
    have WF := WE.same sF
    repeat walk_at "rs"
    refine r_neDD (dp_lot lq3) (dp_lot WF.lt) (nlot.shaped (by decide)) nlot.cl ?_
    repeat walk_at "rs"
    refine r_reprV (dp_lot WF.lt) (nlot.repr (by decide) (by decide)) ?_
    repeat walk_at "rs"
    refine r_neSS ?_
    repeat walk_at "rs"
    have lDF := lDE.same sF
    have lOF := lOE.same sF
    have lq1F := lq1E.same sF
    have lt1F := lt1E.same sF
    have etdF := sF _ _ etdE
    have etuF := sF _ _ etuE
    clear lq3 WE lDE lOE lq1E lt1E etdE etuE e7 sF
    refine ⟨a, wd, _, rfl, WF.sr, by omega, smallc (by omega), by omega, fun spot HG sp0 sp1 sxG srG => ?_⟩
    have WG := WF.draw nla sxG srG
    have lDG := lDF.sx WF.sr nDa sxG
    have lOG := lOF.sx WF.sr nD2a sxG
    have lq1G := lq1F.sx WF.sr nq1 sxG
    have lt1G := lt1F.sx WF.sr nt1a sxG
    have etdG := sxG _ _ ntd etdF
    have etuG := sxG _ _ ntua etuF
    clear WF lDF lOF lq1F lt1F etdF etuF
    repeat walk_at "rs"
    walk_at "nm"
    repeat walk_at "rs"
    refine r_I (by omega) ?_
    repeat walk_at "rs"
    refine ⟨wd, _, D, _, rfl, lDG, Rv, Int.emod_nonneg _ (by omega), Int.emod_lt_of_pos _ (by omega), fun HH sH => ?_⟩
    rw [cover_moved]
    have WH := WG.same sH
    repeat walk_at "rs"
    refine ⟨wd, spot, l, lot, rfl, WH.lt, R, sp0, sp1, fun HI sI => ?_⟩
    have WI := WH.same sI
    have sGI := sH.trans sI
    repeat walk_at "rs"
    refine iteF' (by rw [decide_eq_true rfl]; rfl) ?_
    repeat walk_at "rs"
    refine r_I (by omega) ?_
    repeat walk_at "rs"
    refine ⟨wd, _, D2, _, rfl, lOG.same sGI, Rr, Int.emod_nonneg _ (by omega), Int.emod_lt_of_pos _ (by omega), fun HJ sJ => ?_⟩
    rw [cover_mir w1]
    have WJ := WI.same sJ
    repeat walk_at "rs"
    refine ⟨wd, spot, l, lot, rfl, WJ.lt, R, sp0, sp1, fun HK sK => ?_⟩
    have WK := WJ.same sK
    have sGK := (sGI.trans sJ).trans sK
    repeat walk_at "rs"
    refine iteF' (by rw [decide_eq_true rfl]; rfl) ?_
    have lDK := lDG.same sGK
    have lOK := lOG.same sGK
    have lt1K := lt1G.same sGK
    have etdK := sGK _ _ etdG
    have etuK := sGK _ _ etuG
    obtain ⟨ls1, eq1, pr1⟩ := lq1G.same sGK
    have ll1 : ls1.length = lot.length := by
      rw [paired_len pr1, movedF_len]
    clear WJ WI WH WG lDG lOG lq1G lt1G etdG etuG
    repeat walk_at "rs"
    refine r_ixL (sqe etdK) at0 ?_
    refine ⟨.inl ⟨rfl, _, sqe eq1⟩, ?_⟩
    repeat walk_at "rs"
    refine r_app eq1 (by rw [List.length_map]; omega) ?_
    have WL := WK.put (ys := ls1.map V.ref ++ [.int 0]) eq1 nlq1 nq1 fq1
    have lDL := lDK.put (ys := ls1.map V.ref ++ [.int 0]) eq1 nDq1
    have lOL := lOK.put (ys := ls1.map V.ref ++ [.int 0]) eq1 nq1D2.symm
    have lt1L := lt1K.put (ys := ls1.map V.ref ++ [.int 0]) eq1 nq1t1.symm
    have etuL : (upd HK q1 (.lst (ls1.map V.ref ++ [.int 0]))) tu = some (.lst [.ref t1, .ref t2]) := (upd_ne nq1tu.symm).trans etuK
    revert WL lDL lOL lt1L etuL
    generalize upd HK q1 (.lst (ls1.map V.ref ++ [.int 0])) = HL
    intro WL lDL lOL lt1L etuL
    clear WK lDK lOK lt1K etuK etdK
    repeat walk_at "rs"
    refine r_ixL (sqe etuL) at0 ?_
    obtain ⟨ls2, eq2, pr2⟩ := lt1L
    have ll2 : ls2.length = lot.length := by
      rw [paired_len pr2, mirF_len]
    refine ⟨.inl ⟨rfl, _, sqe eq2⟩, ?_⟩
    repeat walk_at "rs"
    refine r_app eq2 (by rw [List.length_map]; omega) ?_
    have WM := WL.put (ys := ls2.map V.ref ++ [.int 0]) eq2 nlt1 nt1a ft1
    have lDM := lDL.put (ys := ls2.map V.ref ++ [.int 0]) eq2 nDt1
    have lOM := lOL.put (ys := ls2.map V.ref ++ [.int 0]) eq2 nD2t1
    revert WM lDM lOM
    generalize upd HL t1 (.lst (ls2.map V.ref ++ [.int 0])) = HM
    intro WM lDM lOM
    repeat walk_at "rs"
    refine ⟨wd, step, l, lot, rfl, WM.lt, R, fun q8 HN sN hq8 lq8 => ?_⟩
    have WN := WM.same sN
    repeat walk_at "rs"
    refine r_eqDD (dp_lot lq8) (dp_lot (lDM.same sN)) (nv.shaped (by decide)) nv.cl ?_
    repeat walk_at "rs"
    refine ⟨wd, l, lot, rfl, WN.lt, R, fun q9 HO sO hq9 lq9 => ?_⟩
    have WO := WN.same sO
    repeat walk_at "rs"
    refine r_eqDD (dp_lot lq9) (dp_lot ((lOM.same sN).same sO)) (nr.shaped (by decide)) nr.cl ?_
    exact k _ WO.sx (WO.sr.le (by omega))
end
end R04
namespace R04
open PySem PySem.Spec PyProof.Rows L2 Rg
local macro_rules | `(tactic| walk_at "rs") => `(tactic| (first
  | with_reducible refine Rg.r_seq ?_ | with_reducible refine Rg.r_asg ?_ | with_reducible refine Rg.r_name ?_ | with_reducible refine Rg.r_drop ?_ | with_reducible refine Rg.r_ret ?_ | with_reducible refine Rg.r_next ?_
  | refine Rg.r_var rfl ?_ | with_reducible refine Rg.r_c ?_ | with_reducible refine Rg.r_op ?_ | with_reducible refine Rg.r_un ?_ | with_reducible refine Rg.r_rU ?_ | with_reducible refine Rg.r_I0 ?_
  | with_reducible refine Rg.r_eqI ?_ | with_reducible refine Rg.r_neI ?_ | with_reducible refine Rg.r_test ?_ | with_reducible refine Rg.r_B ?_ | with_reducible refine Rg.r_bl ?_ | with_reducible refine Rg.r_not ?_ | with_reducible refine Rg.r_and ?_ | with_reducible refine Rg.r_or ?_
  | with_reducible refine Rg.r_andV ?_ | with_reducible refine Rg.r_orV ?_ | with_reducible refine Rg.r_notV ?_ | with_reducible refine Rg.r_if ?_ | with_reducible refine Rg.r_ifE ?_ | with_reducible refine Rg.r_chain ?_
  | with_reducible refine Rg.r_cb ?_ | with_reducible refine Rg.r_call ?_ | with_reducible refine Rg.r_nil ?_ | with_reducible refine Rg.r_cons ?_ | with_reducible refine Rg.r_lst ?_ | with_reducible refine Rg.r_tup ?_ | with_reducible refine Rg.r_sl ?_ | with_reducible refine Rg.r_noP ?_ | with_reducible refine Rg.r_part ?_ | with_reducible refine Rg.r_int ?_
  | with_reducible refine Rg.r_intI ?_ | with_reducible refine Rg.r_intB ?_ | with_reducible refine Rg.r_abs2 ?_ | with_reducible refine Rg.r_mx2 ?_ | with_reducible refine Rg.r_mn2 ?_ | with_reducible refine Rg.r_sub ?_ | with_reducible refine Rg.r_par ?_ | with_reducible refine Rg.r_par2 ?_ | with_reducible refine Rg.r_bm ?_
  | with_reducible refine Rg.r_gcons ?_ | with_reducible refine Rg.r_gnil ?_ | refine Rg.r_aug rfl ?_ | with_reducible refine Rg.r_ip ?_ | with_reducible refine iteT ?_ | with_reducible refine iteF ?_
  | with_reducible refine Rg.r_par3 ?_ | with_reducible refine Rg.r_par3b ?_ | with_reducible refine Rg.r_kw ?_ | with_reducible refine Rg.r_rev0 ?_ | with_reducible refine Rg.r_revL ?_
  | with_reducible refine Rg.r_for ?_ | with_reducible refine Rg.r_lc ?_ | with_reducible refine Rg.r_ilist ?_ | with_reducible refine Rg.r_ienum ?_ | with_reducible refine Rg.r_izip ?_ | with_reducible refine Rg.r_irng1 ?_ | with_reducible refine Rg.r_irng2 ?_))
local macro_rules | `(tactic| walk_at "nm") => `(tactic| (try simp only [L2.start, List.map_cons, List.map_nil, List.length_cons, List.length_nil, List.replicate_succ, List.replicate_zero, List.cons_append, List.nil_append, List.set_cons_succ, List.set_cons_zero, Nat.reduceAdd, Nat.reduceSub, Nat.zero_add, Nat.add_zero]))
theorem fits_iff {m f v : Int} {lot : List (Int × Int)} (hm : 1 ≤ m) (hf : 1 ≤ f) (hv : 1 ≤ v) (hin : v ∈ lot.map Prod.snd) (hle : ∀ y ∈ lot.map Prod.snd, y ≤ v) : (f ≤ 10 ^ 30 / m ∧ f ≤ 10 ^ 31 / v) ↔ Fits m f lot := by
  rw [Int.le_ediv_iff_mul_le (by omega), Int.le_ediv_iff_mul_le (by omega)]
  obtain ⟨p, hp, rfl⟩ := List.mem_map.mp hin
  constructor
  · rintro ⟨a, b⟩
    refine ⟨by rw [Int.mul_comm]; exact a, fun q hq => ?_⟩
    have h1 := hle _ (List.mem_map_of_mem (f := Prod.snd) hq)
    have h2 : q.2 * f ≤ p.2 * f := Int.mul_le_mul_of_nonneg_right h1 (by omega)
    have h3 : p.2 * f = f * p.2 := Int.mul_comm _ _
    omega
  · rintro ⟨a, b⟩
    refine ⟨by rw [Int.mul_comm]; exact a, ?_⟩
    have := b p hp
    have h3 : p.2 * f = f * p.2 := Int.mul_comm _ _
    omega
theorem r_itup {K : PySem.W.Frag} {tl : TE} {σ : L2.St} {H : Hp} {R : It → Hp → Prop} (h : tl σ H fun x H1 => ∃ a, x = .ref a ∧ (∃ xs, SqT K H1 a xs) ∧ R (Itt K a) H1) : iTup K tl σ H R := h
section
variable {P : Program} {w : World} {K : PySem.W.Frag} {mg : Str → Option Value} {base : Heap}
def spTimesR : Sp := fun vs H Q _ => ∃ (a l : Addr) (wd : Int) (lot : List (Int × Int)) (N : Nat), vs = [.ref a, .int wd, .ref l] ∧ Src a N H ∧ LotAt H l lot ∧ RingOk wd lot ∧ l ≠ a ∧ N + 200 < 10 ^ 9 ∧
  ∀ H', Sx a H H' → Src a (N + 20) H' → Q (.bl true) H'
theorem ok_law_times_right (T : Tx K mg) : FnG P w K mg base CX0 8 T.a_law_times_right T.d_law_times_right P_law_times_right spTimesR := by
  refine fnG_of T.p_law_times_right.fn sc_law_times_right (fun vs H Q E h => ?_) (fun cdv A outer s H vs Q E hg hr h => ?_)
  · obtain ⟨a, l, wd, lot, N, rfl, _⟩ := h
    rfl
  · obtain ⟨a, l, wd, lot, N, rfl, hs, hl, R, nla, hN, k⟩ := h
    have n1 := R.n1
    have n2 := R.n2
    have w1 := R.w1
    have w2 := R.w2
    refine ⟨_, (pss_cons (ps_set (i := 3) sc_law_times_right.nd rfl (.inl rfl) (pe_callB (cr_max rfl) (by rfl) T.n_max (by rfl) (pa_cons (pe_lc (own := [("at", 9), ("size", 10)]) (tt := tYes) rfl sc_law_times_right.nd (pi_list (pv 2)) (blkOk_by (N := N_law_times_right) (sc := defScope s_law_times_right) (by decide +kernel)) (fun _ _ _ _ _ => by exact (pg_tupK (n := 2) (K := K) rfl rfl (pgs_cons (pg_name (i := 9) sc_law_times_right.nd rfl (.inl rfl)) (pgs_cons (pg_name (i := 10) sc_law_times_right.nd rfl (.inl rfl)) pgs_nil)))) (fun _ _ _ _ _ => pts_nil) (fun _ _ _ _ _ => by exact (pv 10))) pa_nil)))
      (pss_cons (ps_set (i := 4) sc_law_times_right.nd rfl (.inl rfl) (pe_callB (call_mn2 rfl) (by rfl) T.n_min (by rfl) (pa_cons (pe_op op_fdivW (pe_op op_powW pe_int pe_int) (pv 1)) (pa_cons (pe_op op_fdivW (pe_op op_powW pe_int pe_int) (pv 3)) pa_nil))))
      (pss_cons (ps_for PassesOwn.never rfl (pi_tup (pe_tup (pa_cons pe_int (pa_cons (pe_op op_add pe_int (pe_call (ok_law_draw T) (hr.mono (by decide)) (by rfl) T.p_law_draw.g T.p_law_draw.fn.kp T.p_law_draw.b .nil pass0 (pa_cons (pv 0) (pa_cons (pv 4) pa_nil)))) (pa_cons (pv 4) (pa_cons (pe_op op_add (pv 4) pe_int) (pa_cons (pe_op op_powW pe_int pe_int) pa_nil))))))) (pg_name (i := 5) sc_law_times_right.nd rfl (.inr rfl)) (pss_cons (ps_set (i := 6) sc_law_times_right.nd rfl (.inl rfl) (pe_ifExp (pt_cmpR op_le (pv 5) (pv 4) (nomark _)) (pe_lc (own := [("at", 9), ("size", 10)]) (tt := tYes) rfl sc_law_times_right.nd (pi_list (pv 2)) (blkOk_by (N := N_law_times_right) (sc := defScope s_law_times_right) (by decide +kernel)) (fun _ _ _ _ _ => by exact (pg_tupK (n := 2) (K := K) rfl rfl (pgs_cons (pg_name (i := 9) sc_law_times_right.nd rfl (.inl rfl)) (pgs_cons (pg_name (i := 10) sc_law_times_right.nd rfl (.inl rfl)) pgs_nil)))) (fun _ _ _ _ _ => pts_nil) (fun _ _ _ _ _ => by exact (pe_tup (pa_cons (pe_op op_mulW (pv 9) (pv 5)) (pa_cons (pe_op op_mulW (pv 10) (pv 5)) pa_nil))))) pe_non))
      (pss_cons (ps_set (i := 7) sc_law_times_right.nd rfl (.inl rfl) (pe_call (ok_law_times T) (hr.mono (by decide)) (by rfl) T.p_law_times.g T.p_law_times.fn.kp T.p_law_times.b .nil pass0 (pa_cons (pv 1) (pa_cons (pv 2) (pa_cons (pv 5) pa_nil)))))
      (pss_cons (ps_if (pt_cmpR op_ne (pe_callB (call_reprV hg (hu64 hr)) (by rfl) T.n_repr (by rfl) (pa_cons (pv 7) pa_nil)) (pe_callB (call_reprV hg (hu64 hr)) (by rfl) T.n_repr (by rfl) (pa_cons (pv 6) pa_nil)) (nomark _)) (pss_one (ps_ret pe_bl)) pss_nil)
      (pss_one (ps_if (pt_cmpR op_notN (pv 7) pe_non (nomark _)) (pss_cons (ps_set (i := 8) sc_law_times_right.nd rfl (.inl rfl) (pe_call (ok_law_draw T) (hr.mono (by decide)) (by rfl) T.p_law_draw.g T.p_law_draw.fn.kp T.p_law_draw.b .nil pass0 (pa_cons (pv 0) (pa_cons (pe_op op_mulW (pv 1) (pv 5)) pa_nil))))
      (pss_cons (ps_if (pt_cmpR op_ne (pe_call (ok_cover_at T) (hr.mono (by decide)) (by rfl) T.p_cover_at.g T.p_cover_at.fn.kp T.p_cover_at.b .nil pass0 (pa_cons (pe_op op_mulW (pv 1) (pv 5)) (pa_cons (pv 7) (pa_cons (pv 8) pa_nil)))) (pe_call (ok_cover_at T) (hr.mono (by decide)) (by rfl) T.p_cover_at.g T.p_cover_at.fn.kp T.p_cover_at.b .nil pass0 (pa_cons (pv 1) (pa_cons (pv 2) (pa_cons (pe_op op_fdivW (pv 8) (pv 5)) pa_nil)))) (nomark _)) (pss_one (ps_ret pe_bl)) pss_nil)
      (pss_cons (ps_expr (pe_bm PySem.F.plainAttrs_list PySem.F.slot_list_append PySem.F.type_list_append mt_append (pv 7) (pa_cons pe_int pa_nil)))
      (pss_one (ps_if (pt_cmpR (op_neD (hu64 hr)) (pe_kw (ok_multiplied T) (hr.mono (by decide)) (by rfl) T.p_multiplied.g T.p_multiplied.fn.kp T.kb2_multiplied passL (pk_cons (pv 5) (pk_cons (pv 2) (pk_cons (pv 1) pk_nil)))) (pv 6) (nomark _)) (pss_one (ps_ret pe_bl)) pss_nil))))) pss_nil))))))
      (pss_one (ps_ret pe_bl))))), ?_⟩
    repeat walk_at "rs"
    obtain ⟨xs, hx, hn⟩ := hl.seq
    refine ⟨l, rfl, ⟨xs, sqe hx⟩, fun D hD => ?_⟩
    have kD : ∀ (h : Hp) (acc' : List V), Same H h → Same H (upd h D (.lst acc')) := fun h acc' q => same_keep hD q
    refine lc_gen xs.length (by omega) (fun i h => Same H h) (fun i v h => ∃ p, lot[i]? = some p ∧ v = .int p.2) hD (kD _ _ (Same.refl _)) (fun i h acc acc' _ q => kD _ _ q) ?_ ?_ ?_ ?_ ?_
    · intro h sm
      exact ⟨xs, sqe (sm _ _ hx), Nat.le_refl _⟩
    · intro i h hi sm
      exact go_list (sqe (sm _ _ hx)) hi
    · rintro i h x h' acc Q' hi sm ha ⟨rfl, g1⟩ q
      obtain ⟨b, p, rfl, gp, ta⟩ := lot_item (hl.same sm) (sm _ _ hx) (g1 _ (sqe (sm _ _ hx)))
      refine r_gtup (ste ta) rfl ?_
      repeat walk_at "rs"
      refine ⟨rfl, ?_⟩
      repeat walk_at "rs"
      exact q _ _ sm ha (fun _ _ _ r => r) ⟨p, gp, rfl⟩
    · intro i y h acc acc' _ r
      exact r
    intro H1 acc s1 ha hlen hF
    rw [acc_map (f := Prod.snd) (by omega) hF] at ha
    clear hF hlen hx hn kD
    repeat walk_at "rs"
    refine ⟨D, _, rfl, sqe ha, by rw [List.length_map]; omega, fun v hv hle => ?_⟩
    have rv : 1 ≤ v ∧ v ≤ 10 ^ 31 := by
      obtain ⟨p, hp, rfl⟩ := List.mem_map.mp hv
      exact (R.rc p hp).2.2
    have fi := fun f (hf : 1 ≤ f) => fits_iff (m := wd) (f := f) w1 hf rv.1 hv hle
    have W1 : Wd a l lot H N H1 := ⟨hl.same s1, Sx.of s1, hs.same s1⟩
    clear ha hD s1
    repeat walk_at "rs"
    walk_at "nm"
    repeat walk_at "rs"
    refine r_I (cpow 30 (by decide) (n := 10) (by decide) (by decide)) ?_
    repeat walk_at "rs"
    refine r_I (wide_div (b := 200) (by omega) (by omega) (by decide) (by decide)) ?_
    repeat walk_at "rs"
    refine r_I (cpow 31 (by decide) (n := 10) (by decide) (by decide)) ?_
    repeat walk_at "rs"
    refine r_I (wide_div (b := 200) (by omega) (by omega) (by decide) (by decide)) ?_
    repeat walk_at "rs"
    have e30 : (10 : Int) ^ Int.toNat 30 = 10 ^ 30 := rfl
    have e31 : (10 : Int) ^ Int.toNat 31 = 10 ^ 31 := rfl
    rw [e30, e31]
    obtain ⟨top, htop⟩ : ∃ top, top = (if (10 : Int) ^ 31 / v < 10 ^ 30 / wd then (10 : Int) ^ 31 / v else 10 ^ 30 / wd) := ⟨_, rfl⟩
    rw [← htop]
    have hA : 1 ≤ (10 : Int) ^ 30 / wd := (Int.le_ediv_iff_mul_le (by omega)).mpr (by omega)
    have hB : 1 ≤ (10 : Int) ^ 31 / v := (Int.le_ediv_iff_mul_le (by omega)).mpr (by omega)
    have hA2 : (10 : Int) ^ 30 / wd ≤ 10 ^ 30 := Int.ediv_le_self _ (by decide)
    have ft : ∀ f : Int, 1 ≤ f → (f ≤ top ↔ Fits wd f lot) := fun f hf => by
      rw [← fi f hf, htop]
      generalize (10 : Int) ^ 30 / wd = A
      generalize (10 : Int) ^ 31 / v = B
      split <;> omega
    have t1 : 1 ≤ top ∧ top ≤ 10 ^ 30 := by
      rw [htop]
      generalize (10 : Int) ^ 30 / wd = A at hA hA2
      generalize (10 : Int) ^ 31 / v = B at hB
      split <;> omega
    clear htop fi hA hB hA2 e30 e31
    walk_at "nm"
    refine r_itup ?_
    repeat walk_at "rs"
    refine ⟨a, top, _, rfl, W1.sr, by omega, smallc (by omega), by omega, fun r H2 r0 r1 sx2 sr2 => ?_⟩
    have W2 := W1.draw nla sx2 sr2
    repeat walk_at "rs"
    refine r_I (cpow 44 (by decide) (n := 10) (by decide) (by decide)) ?_
    repeat walk_at "rs"
    have e44 : (10 : Int) ^ Int.toNat 44 = 10 ^ 44 := rfl
    rw [e44]
    refine ⟨by show 5 ≤ sizeLine; decide, fun t5 ht5 => ?_⟩
    have nt5 := W2.ne ht5
    have S3 := Same.new (o := HO.tup [.int 1, .int (1 + r), .int top, .int (top + 1), .int (10 ^ 44)]) ht5
    have W3 := W2.same S3
    have e5 : (upd H2 t5 (.tup [.int 1, .int (1 + r), .int top, .int (top + 1), .int (10 ^ 44)])) t5 = some (.tup [.int 1, .int (1 + r), .int top, .int (top + 1), .int (10 ^ 44)]) := upd_same
    revert W3 e5
    generalize upd H2 t5 (.tup [.int 1, .int (1 + r), .int top, .int (top + 1), .int (10 ^ 44)]) = H3
    intro W3 e5
    clear S3 W2 W1
    refine ⟨t5, rfl, ⟨_, ste e5⟩, ?_⟩
    refine for_gen 5 (fun i σ H' => ∃ y5 y6 y7 y8, σ = [some (.ref a), some (.int wd), some (.ref l), some (.int v), some (.int top), y5, y6, y7, y8, none, none] ∧ Sx a H3 H' ∧ Wd a l lot H (N + 1 + i) H') ⟨none, none, none, none, rfl, Sx.refl _ _, W3⟩ ?_ ?_ ?_ ?_
    · rintro σ H' ⟨y5, y6, y7, y8, rfl, sx, W⟩
      exact ⟨_, ste (sx _ _ nt5 e5), Nat.le_refl _⟩
    · rintro i σ H' hi ⟨y5, y6, y7, y8, rfl, sx, W⟩
      obtain ⟨z, hz⟩ := get_of (xs := [V.int 1, V.int (1 + r), V.int top, V.int (top + 1), V.int (10 ^ 44)]) (i := i) hi
      exact ⟨_, z, ste (sx _ _ nt5 e5), hz⟩
    · rintro i σ H' x H4 hi ⟨y5, y6, y7, y8, rfl, sx, W4⟩ ⟨rfl, g1⟩
      have gy := g1 _ (ste (sx _ _ nt5 e5))
      have hy : ∃ f : Int, x = .int f ∧ 1 ≤ f ∧ f < 2 ^ 200 := by
        rcases (show i = 0 ∨ i = 1 ∨ i = 2 ∨ i = 3 ∨ i = 4 by omega) with rfl | rfl | rfl | rfl | rfl
        · exact ⟨_, (Option.some.inj gy).symm, by omega, by omega⟩
        · exact ⟨_, (Option.some.inj gy).symm, by omega, by omega⟩
        · exact ⟨_, (Option.some.inj gy).symm, by omega, by omega⟩
        · exact ⟨_, (Option.some.inj gy).symm, by omega, by omega⟩
        · exact ⟨_, (Option.some.inj gy).symm, by decide, by decide⟩
      obtain ⟨f, rfl, f1, f2⟩ := hy
      have ftf := ft f f1
      clear gy g1
      repeat walk_at "rs"
      walk_at "nm"
      repeat walk_at "rs"
      have cM : CMulW wd f := wide_mul (a := 110) (b := 210) (by omega) (by omega) (by decide) (by decide) (by decide)
      refine ite2 (fun c => ?_) (fun c => ?_)
      · have c := of_decide_eq_true c
        have F := ftf.mp c
        have Rm := ring_mult R f1 F
        have nm := nice_lotR (w := wd * f) F.1 (by rw [multF_len]; omega) Rm.rc
        have wf1 := Rm.w1
        have wf2 := Rm.w2
        repeat walk_at "rs"
        obtain ⟨xs, hx, hn⟩ := W4.lt.seq
        refine ⟨l, rfl, ⟨xs, sqe hx⟩, fun D hD => ?_⟩
        have kD : ∀ (h : Hp) (acc' : List V), Same H4 h → Same H4 (upd h D (.lst acc')) := fun h acc' q => same_keep hD q
        refine lc_gen xs.length (by omega) (fun i h => Same H4 h) (fun i v h => ∃ p a, (multF f lot)[i]? = some p ∧ v = V.ref a ∧ TupAt h a p) hD (kD _ _ (Same.refl _)) (fun i h acc acc' _ q => kD _ _ q) ?_ ?_ ?_ ?_ ?_
        · intro h sm
          exact ⟨xs, sqe (sm _ _ hx), Nat.le_refl _⟩
        · intro i h hi sm
          exact go_list (sqe (sm _ _ hx)) hi
        · rintro i h x h' acc Q' hi sm ha ⟨rfl, g1⟩ q
          obtain ⟨b, p, rfl, gp, ta⟩ := lot_item (W4.lt.same sm) (sm _ _ hx) (g1 _ (sqe (sm _ _ hx)))
          have rp := R.rc _ (List.mem_of_getElem? gp)
          have rp1 := rp.1
          have rp2 := rp.2.1
          have rp3 := rp.2.2.1
          have rp4 := rp.2.2.2
          refine r_gtup (ste ta) rfl ?_
          repeat walk_at "rs"
          refine ⟨rfl, ?_⟩
          repeat walk_at "rs"
          refine r_I (wide_mul (a := 110) (b := 210) (by omega) (by omega) (by decide) (by decide) (by decide)) ?_
          repeat walk_at "rs"
          refine r_I (wide_mul (a := 110) (b := 210) (by omega) (by omega) (by decide) (by decide) (by decide)) ?_
          repeat walk_at "rs"
          refine ⟨by show 2 ≤ sizeLine; decide, fun t ht => ?_⟩
          have sT : Same h' (upd h' t (.tup [.int (p.1 * f), .int (p.2 * f)])) := Same.new ht
          refine q _ _ (sm.trans sT) (sT _ _ ha) (fun j z _ r => ?_) ⟨(p.1 * f, p.2 * f), t, ?_, rfl, upd_same⟩
          · obtain ⟨p', a', g', e', t'⟩ := r
            exact ⟨p', a', g', e', t'.same sT⟩
          · unfold multF
            rw [List.getElem?_map, gp]
            rfl
        · rintro i y h acc acc' ha ⟨p, b, g, e, ta⟩
          refine ⟨p, b, g, e, ?_⟩
          have ne : b ≠ D := ne_of ta ha (by intro z; cases z)
          show upd h D _ b = _
          rw [upd_ne ne]
          exact ta
        intro H5 acc s5 ha hlen hF
        obtain ⟨as, rfl, pr⟩ := lotPairs (lot := multF f lot) (acc := acc) (by have := multF_len f lot; omega) hF
        have lD : LotAt H5 D (multF f lot) := ⟨as, ha, pr⟩
        have nDa := W4.ne hD
        have W5 := W4.same s5
        have sx5 := sx.trans (Sx.of s5)
        clear hF hlen hx hn kD ha pr W4
        repeat walk_at "rs"
        walk_at "nm"
        repeat walk_at "rs"
        refine ⟨wd, f, l, lot, rfl, W5.lt, R, f1, f2, fun _ q H6 s6 hq lq => ?_, fun z => absurd F z⟩
        have nqa := W5.ne hq
        have nDq : D ≠ q := by
          obtain ⟨as, e, _⟩ := lD
          exact ne_of_none e hq
        have nlq : l ≠ q := by
          obtain ⟨as, e, _⟩ := W5.lt
          exact ne_of_none e hq
        have fq : H q = none := sx_free W5.sx hq nqa
        have fq3 : H3 q = none := sx_free sx5 hq nqa
        have W6 := W5.same s6
        have sx6 := sx5.trans (Sx.of s6)
        have lD6 := lD.same s6
        repeat walk_at "rs"
        walk_at "nm"
        repeat walk_at "rs"
        refine r_reprV (dp_lot lq) (nm.repr (by decide) (by decide)) ?_
        repeat walk_at "rs"
        refine r_reprV (dp_lot lD6) (nm.repr (by decide) (by decide)) ?_
        repeat walk_at "rs"
        refine r_neSS ?_
        repeat walk_at "rs"
        refine ⟨rfl, _, rfl, ?_⟩
        refine iteT' (by rw [decide_eq_false (by intro z; cases z)]; rfl) ?_
        repeat walk_at "rs"
        refine r_I cM ?_
        repeat walk_at "rs"
        refine ⟨a, wd * f, _, rfl, W6.sr, by omega, smallc (by omega), by omega, fun spot H7 sp0 sp1 sx7 sr7 => ?_⟩
        have W7 := W6.draw nla sx7 sr7
        have lq7 := lq.sx W6.sr nqa sx7
        have lD7 := lD6.sx W6.sr nDa sx7
        have sxA := sx6.trans sx7
        repeat walk_at "rs"
        walk_at "nm"
        repeat walk_at "rs"
        refine r_I cM ?_
        repeat walk_at "rs"
        refine ⟨wd * f, spot, q, _, rfl, lq7, Rm, sp0, sp1, fun H8 s8 => ?_⟩
        rw [cover_mult w1 f1]
        have W8 := W7.same s8
        repeat walk_at "rs"
        refine r_I (wide_div (b := 210) (by omega) (by omega) (by decide) (by decide)) ?_
        repeat walk_at "rs"
        refine ⟨wd, _, l, lot, rfl, W8.lt, R, Int.ediv_nonneg sp0 (by omega), Int.ediv_lt_of_lt_mul (by omega) sp1, fun H9 s9 => ?_⟩
        have W9 := W8.same s9
        have s79 := s8.trans s9
        have sxB := sxA.trans (Sx.of s79)
        repeat walk_at "rs"
        refine iteF' (by rw [decide_eq_true rfl]; rfl) ?_
        repeat walk_at "rs"
        obtain ⟨ls, eq, pq⟩ := lq7.same s79
        have lls : ls.length = lot.length := by
          rw [paired_len pq, multF_len]
        have lD9 := lD7.same s79
        refine ⟨.inl ⟨rfl, _, sqe eq⟩, ?_⟩
        repeat walk_at "rs"
        refine r_app eq (by rw [List.length_map]; omega) ?_
        have WA := W9.put (ys := ls.map V.ref ++ [.int 0]) eq nlq nqa fq
        have lDA := lD9.put (ys := ls.map V.ref ++ [.int 0]) eq nDq
        have sxC : Sx a H3 (upd H9 q (.lst (ls.map V.ref ++ [.int 0]))) := fun c o nc ec => (upd_ne (ne_of_none ec fq3)).trans (sxB c o nc ec)
        revert WA lDA sxC
        generalize upd H9 q (.lst (ls.map V.ref ++ [.int 0])) = HA
        intro WA lDA sxC
        repeat walk_at "rs"
        refine ⟨wd, f, l, lot, rfl, WA.lt, R, f1, f2, fun _ q9 HB sB hq9 lq9 => ?_, fun z => absurd F z⟩
        repeat walk_at "rs"
        refine r_neDD (dp_lot lq9) (dp_lot (lDA.same sB)) (nm.shaped (by decide)) nm.cl ?_
        repeat walk_at "rs"
        exact ⟨_, _, _, _, rfl, sxC.trans (Sx.of sB), WA.same sB⟩
      · have nF : ¬ Fits wd f lot := fun z => c (decide_eq_true (ftf.mpr z))
        repeat walk_at "rs"
        walk_at "nm"
        repeat walk_at "rs"
        refine ⟨wd, f, l, lot, rfl, W4.lt, R, f1, f2, fun z => absurd z nF, fun _ H6 s6 => ?_⟩
        repeat walk_at "rs"
        walk_at "nm"
        repeat walk_at "rs"
        refine r_reprN ?_
        repeat walk_at "rs"
        refine r_reprN ?_
        repeat walk_at "rs"
        refine r_neSS ?_
        repeat walk_at "rs"
        refine ⟨rfl, _, rfl, ?_⟩
        refine iteF' (by rw [decide_eq_true rfl]; rfl) ?_
        repeat walk_at "rs"
        have W6 := W4.same s6
        exact ⟨_, _, _, _, rfl, sx.trans (Sx.of s6), W6.lt, W6.sx, W6.sr.le (by omega)⟩
    · rintro σ H' ⟨y5, y6, y7, y8, rfl, sx, W⟩
      repeat walk_at "rs"
      exact k _ W.sx (W.sr.le (by omega))
end
end R04
namespace R04
open PySem PySem.Spec PyProof.Rows L2 Rg
local macro_rules | `(tactic| walk_at "rs") => `(tactic| (first
  | with_reducible refine Rg.r_seq ?_ | with_reducible refine Rg.r_asg ?_ | with_reducible refine Rg.r_name ?_ | with_reducible refine Rg.r_drop ?_ | with_reducible refine Rg.r_ret ?_ | with_reducible refine Rg.r_next ?_
  | refine Rg.r_var rfl ?_ | with_reducible refine Rg.r_c ?_ | with_reducible refine Rg.r_op ?_ | with_reducible refine Rg.r_un ?_ | with_reducible refine Rg.r_rU ?_ | with_reducible refine Rg.r_I0 ?_
  | with_reducible refine Rg.r_eqI ?_ | with_reducible refine Rg.r_neI ?_ | with_reducible refine Rg.r_test ?_ | with_reducible refine Rg.r_B ?_ | with_reducible refine Rg.r_bl ?_ | with_reducible refine Rg.r_not ?_ | with_reducible refine Rg.r_and ?_ | with_reducible refine Rg.r_or ?_
  | with_reducible refine Rg.r_andV ?_ | with_reducible refine Rg.r_orV ?_ | with_reducible refine Rg.r_notV ?_ | with_reducible refine Rg.r_if ?_ | with_reducible refine Rg.r_ifE ?_ | with_reducible refine Rg.r_chain ?_
  | with_reducible refine Rg.r_cb ?_ | with_reducible refine Rg.r_call ?_ | with_reducible refine Rg.r_nil ?_ | with_reducible refine Rg.r_cons ?_ | with_reducible refine Rg.r_lst ?_ | with_reducible refine Rg.r_tup ?_ | with_reducible refine Rg.r_sl ?_ | with_reducible refine Rg.r_noP ?_ | with_reducible refine Rg.r_part ?_ | with_reducible refine Rg.r_int ?_
  | with_reducible refine Rg.r_intI ?_ | with_reducible refine Rg.r_intB ?_ | with_reducible refine Rg.r_abs2 ?_ | with_reducible refine Rg.r_mx2 ?_ | with_reducible refine Rg.r_mn2 ?_ | with_reducible refine Rg.r_sub ?_ | with_reducible refine Rg.r_par ?_ | with_reducible refine Rg.r_par2 ?_ | with_reducible refine Rg.r_bm ?_
  | with_reducible refine Rg.r_gcons ?_ | with_reducible refine Rg.r_gnil ?_ | refine Rg.r_aug rfl ?_ | with_reducible refine Rg.r_ip ?_ | with_reducible refine iteT ?_ | with_reducible refine iteF ?_
  | with_reducible refine Rg.r_par3 ?_ | with_reducible refine Rg.r_par3b ?_ | with_reducible refine Rg.r_kw ?_ | with_reducible refine Rg.r_rev0 ?_ | with_reducible refine Rg.r_revL ?_
  | with_reducible refine Rg.r_for ?_ | with_reducible refine Rg.r_lc ?_ | with_reducible refine Rg.r_ilist ?_ | with_reducible refine Rg.r_ienum ?_ | with_reducible refine Rg.r_izip ?_ | with_reducible refine Rg.r_irng1 ?_ | with_reducible refine Rg.r_irng2 ?_))
local macro_rules | `(tactic| walk_at "nm") => `(tactic| (try simp only [L2.start, List.map_cons, List.map_nil, List.length_cons, List.length_nil, List.replicate_succ, List.replicate_zero, List.cons_append, List.nil_append, List.set_cons_succ, List.set_cons_zero, Nat.reduceAdd, Nat.reduceSub, Nat.zero_add, Nat.add_zero]))
theorem at4b {b : Bool} : ∃ v : Int, atI [V.int 4, V.int 30] (if b = true then 1 else 0) = some (.int v) ∧ 1 ≤ v ∧ v ≤ 30 := by
  cases b
  · exact ⟨4, at0, by decide, by decide⟩
  · exact ⟨30, at1, by decide, by decide⟩
theorem len_ring {w : Int} {lot : List (Int × Int)} (h1 : 1 ≤ w) (h2 : w ≤ 10 ^ 30) (n1 : 1 ≤ lot.length) (n2 : lot.length ≤ 30) (h : LenOk w lot) : RingOk w lot := ⟨h1, h2, n1, n2, fun p hp => (h p hp).1⟩
section
variable {P : Program} {w : World} {K : PySem.W.Frag} {mg : Str → Option Value} {base : Heap}
def spLaw (K : PySem.W.Frag) : Sp := fun vs H Q _ => ∃ (a : Addr) (ns : List Int), vs = [.ref a] ∧ SqL K H a (ns.map V.int) ∧ ns.length ≤ 63 ∧ ∀ H', Q (.bl true) H'
theorem ok_law (T : Tx K mg) : FnG P w K mg base CX0 9 T.a_law T.d_law P_law (spLaw K) := by
  refine fnG_of T.p_law.fn sc_law (fun vs H Q E h => ?_) (fun cdv A outer s H vs Q E hg hr h => ?_)
  · obtain ⟨a, ns, rfl, _⟩ := h
    rfl
  · obtain ⟨a, ns, rfl, hs, h63, k⟩ := h
    refine ⟨_, (pss_cons (ps_for PassesOwn.never rfl (pi_enum (by rfl) T.n_enumerate (pa_cons (pe_slice sl_list (pe_op op_catR (pv 0) (pe_lst (pa_cons pe_int pa_nil))) po_none (po_some (pe_callB (call_mx2 rfl) (by rfl) T.n_max (by rfl) (pa_cons pe_int (pa_cons (pe_callB (call_mn2 rfl) (by rfl) T.n_min (by rfl) (pa_cons (pe_callB call_len2 (by rfl) T.n_len (by rfl) (pa_cons (pv 0) pa_nil)) (pa_cons pe_int pa_nil))) pa_nil))))) pa_nil)) (pg_tup (n := 2) rfl (pgs_cons (pg_name (i := 1) sc_law.nd rfl (.inl rfl)) (pgs_cons (pg_name (i := 2) sc_law.nd rfl (.inl rfl)) pgs_nil))) (pss_cons (ps_set (i := 3) sc_law.nd rfl (.inl rfl) (pe_call (ok_law_source T) (hr.mono (by decide)) (by rfl) T.p_law_source.g T.p_law_source.fn.kp T.p_law_source.b .nil pass0 (pa_cons (pv 2) (pa_cons (pv 1) pa_nil))))
      (pss_cons (ps_set (i := 4) sc_law.nd rfl (.inl rfl) (pe_op op_add pe_int (pe_call (ok_law_draw T) (hr.mono (by decide)) (by rfl) T.p_law_draw.g T.p_law_draw.fn.kp T.p_law_draw.b .nil pass0 (pa_cons (pv 3) (pa_cons pe_int pa_nil)))))
      (pss_cons (ps_set (i := 5) sc_law.nd rfl (.inl rfl) (pe_call (ok_law_lot T) (hr.mono (by decide)) (by rfl) T.p_law_lot.g T.p_law_lot.fn.kp T.p_law_lot.b .nil pass0 (pa_cons (pv 3) (pa_cons (pv 4) (pa_cons (pe_op op_add pe_int (pe_call (ok_law_draw T) (hr.mono (by decide)) (by rfl) T.p_law_draw.g T.p_law_draw.fn.kp T.p_law_draw.b .nil pass0 (pa_cons (pv 3) (pa_cons pe_int pa_nil)))) pa_nil)))))
      (pss_cons (ps_set (i := 6) sc_law.nd rfl (.inl rfl) (pe_call (ok_law_far_lot T) (hr.mono (by decide)) (by rfl) T.p_law_far_lot.g T.p_law_far_lot.fn.kp T.p_law_far_lot.b .nil pass0 (pa_cons (pv 3) (pa_cons (pe_op op_add pe_int (pe_call (ok_law_draw T) (hr.mono (by decide)) (by rfl) T.p_law_draw.g T.p_law_draw.fn.kp T.p_law_draw.b .nil pass0 (pa_cons (pv 3) (pa_cons (pe_ix ix_list (pe_lst (pa_cons pe_int (pa_cons pe_int pa_nil))) (pe_callTy call_intB (by rfl) T.n_int (by rfl) (pa_cons (pe_cmpR (op_neD (hu64 hr)) (pv 0) (pe_lst pa_nil) (nomark _)) pa_nil)) (fun _ _ => rfl)) pa_nil)))) pa_nil))))
      (pss_one (ps_for PassesOwn.never rfl (pi_tup (pe_tup (pa_cons (pe_tup (pa_cons (pv 4) (pa_cons (pv 5) pa_nil))) (pa_cons (pv 6) pa_nil)))) (pg_tup (n := 2) rfl (pgs_cons (pg_name (i := 7) sc_law.nd rfl (.inl rfl)) (pgs_cons (pg_name (i := 8) sc_law.nd rfl (.inl rfl)) pgs_nil))) (pss_one (ps_if (pw_or (pt_not (pt_val (pe_callG (ok_law_right T) hg (hr.mono (by decide)) (by rfl) T.p_law_right.g T.p_law_right.fn.kp T.p_law_right.b pass0 (pa_cons (pv 3) (pa_cons (pv 7) (pa_cons (pv 8) pa_nil)))))) (pw_or1 (pt_not (pt_val (pe_callG (ok_law_times_right T) hg (hr.mono (by decide)) (by rfl) T.p_law_times_right.g T.p_law_times_right.fn.kp T.p_law_times_right.b pass0 (pa_cons (pv 3) (pa_cons (pv 7) (pa_cons (pv 8) pa_nil)))))))).pt (pss_one (ps_ret pe_bl)) pss_nil)))))))))
      (pss_one (ps_ret (pe_cmpR (op_eqD (hu64 hr)) (pe_call (ok_multiplied T) (hr.mono (by decide)) (by rfl) T.p_multiplied.g T.p_multiplied.fn.kp T.p_multiplied.b .nil passL (pa_cons pe_int (pa_cons (pe_lst (pa_cons (pe_tup (pa_cons pe_int (pa_cons pe_int pa_nil))) (pa_cons (pe_tup (pa_cons pe_int (pa_cons pe_int pa_nil))) (pa_cons (pe_tup (pa_cons pe_int (pa_cons pe_int pa_nil))) pa_nil)))) (pa_cons pe_int pa_nil)))) (pe_lst (pa_cons (pe_tup (pa_cons pe_int (pa_cons pe_int pa_nil))) (pa_cons (pe_tup (pa_cons pe_int (pa_cons pe_int pa_nil))) (pa_cons (pe_tup (pa_cons pe_int (pa_cons pe_int pa_nil))) pa_nil)))) (nomark _))))), ?_⟩
    repeat walk_at "rs"
    refine ⟨by decide, fun p hp => ?_⟩
    have s1 := Same.new (o := .lst [.int 0]) hp
    refine r_catR (s1.seq hs) (sqe (xs := [.int 0]) upd_same) (by rw [List.length_map]; simp; omega) fun d hd => ?_
    have s2 := s1.trans (Same.new (o := .lst (ns.map V.int ++ [.int 0])) hd)
    have ed : IntsAt (upd (upd H p (.lst [.int 0])) d (.lst (ns.map V.int ++ [.int 0]))) d (ns ++ [0]) := by
      unfold IntsAt
      rw [upd_same, List.map_append]
      rfl
    revert s2 ed
    generalize upd (upd H p (.lst [.int 0])) d (.lst (ns.map V.int ++ [.int 0])) = H2
    intro s2 ed
    repeat walk_at "rs"
    refine r_len2 (.inl (s2.seq hs)) ?_
    repeat walk_at "rs"
    refine r_slTake ed (by split <;> (try split) <;> omega) (by split <;> (try split) <;> omega) fun e ms m6 he => ?_
    have s3 := s2.trans (Same.new (o := HO.lst (ms.map V.int)) he)
    have ee : IntsAt (upd H2 e (.lst (ms.map V.int))) e ms := upd_same
    revert s3 ee
    generalize upd H2 e (.lst (ms.map V.int)) = H3
    intro s3 ee
    clear ed s2 s1
    repeat walk_at "rs"
    refine ⟨e, _, rfl, sqe ee, ?_⟩
    walk_at "nm"
    have ml : (ms.map V.int).length = ms.length := List.length_map _
    refine for_gen (ms.map V.int).length (fun i σ H' => ∃ y1 y2 y3 y4 y5 y6 y7 y8, σ = [some (.ref a), y1, y2, y3, y4, y5, y6, y7, y8] ∧ Same H3 H') ⟨none, none, none, none, none, none, none, none, rfl, Same.refl _⟩ ?_ ?_ ?_ ?_
    · rintro σ H' ⟨y1, y2, y3, y4, y5, y6, y7, y8, rfl, sm⟩
      exact ⟨_, sqe (ee.same sm), Nat.le_refl _⟩
    · rintro i σ H' hi ⟨y1, y2, y3, y4, y5, y6, y7, y8, rfl, sm⟩
      exact go_enum (sqe (ee.same sm)) hi
    · rintro i σ H4 x H5 hi ⟨y1, y2, y3, y4, y5, y6, y7, y8, rfl, sm⟩ ⟨T1, v, rfl, nT, rfl, f⟩
      obtain ⟨cell, gc, rfl⟩ := ints_get (f _ (sqe (ee.same sm)))
      have s5 := sm.trans (Same.new (o := .tup [.int (i : Nat), .int cell]) nT)
      refine r_gtup (ste upd_same) rfl ?_
      revert s5
      generalize upd H4 T1 (.tup [.int (i : Nat), .int cell]) = H5
      intro s5
      repeat walk_at "rs"
      refine ⟨cell, _, rfl, by omega, by omega, fun so H6 s6 nso src => ?_⟩
      have nso3 : H3 so = none := s5.free nso
      have s36 := s5.trans s6
      repeat walk_at "rs"
      walk_at "nm"
      repeat walk_at "rs"
      refine ⟨so, 9, _, rfl, src, by decide, smallc (by decide), by omega, fun r H7 r0 r1 sx7 sr7 => ?_⟩
      repeat walk_at "rs"
      walk_at "nm"
      repeat walk_at "rs"
      refine ⟨so, 6, _, rfl, sr7, by decide, smallc (by decide), by omega, fun r' H8 r0' r1' sx8 sr8 => ?_⟩
      repeat walk_at "rs"
      refine ⟨so, 1 + r, 1 + r', _, rfl, sr8, by omega, by omega, by omega, by omega, by omega, fun l lot H9 sx9 sr9 hl ll ln L => ?_⟩
      have nl : l ≠ so := by
        obtain ⟨_, _, _, q, _⟩ := sr8
        exact fun e => ne_of_none q hl e.symm
      have R : RingOk (1 + r) lot := len_ring (by omega) (by omega) (by omega) (by omega) L
      have sxA := (sx7.trans sx8).trans sx9
      clear sx7 sx8 sx9 sr7 sr8
      repeat walk_at "rs"
      walk_at "nm"
      repeat walk_at "rs"
      refine ⟨by decide, fun p5 hp5 => ?_⟩
      have s8 := Same.new (o := .lst [.int 4, .int 30]) hp5
      have e5 : (upd H9 p5 (.lst [.int 4, .int 30])) p5 = some (.lst [.int 4, .int 30]) := upd_same
      revert s8 e5
      generalize upd H9 p5 (.lst [.int 4, .int 30]) = H10
      intro s8 e5
      repeat walk_at "rs"
      refine ⟨by decide, fun p6 hp6 => ?_⟩
      have s9 := Same.new (o := .lst []) hp6
      have e6 : (upd H10 p6 (.lst [])) p6 = some (.lst []) := upd_same
      have s69 := s8.trans s9
      have e59 := s9 _ _ e5
      revert s69 e6 e59
      generalize upd H10 p6 (.lst []) = H11
      intro e6 s69 e59
      have sxB := sxA.trans (Sx.of s69)
      have scr : SqL K H11 a (ns.map V.int) := (Sx.fresh sxB s36 nso3).seq (s3.seq hs)
      refine r_neInts (ms := []) scr (sqe e6) ?_
      repeat walk_at "rs"
      obtain ⟨v, hv, v1, v30⟩ := at4b (b := !decide (ns = []))
      refine r_ixL (sqe e59) hv ?_
      repeat walk_at "rs"
      refine ⟨so, v, _, rfl, sr9.same s69, by omega, smallc (by omega), by omega, fun rr H12 q0 q1 sx12 sr12 => ?_⟩
      have llB := (ll.same s69).sx (sr9.same s69) nl sx12
      repeat walk_at "rs"
      refine ⟨so, 1 + rr, _, rfl, sr12, by omega, by omega, by omega, fun t l2 wd lot2 H13 sx13 sr13 et hl2 ll2 ln2 R2 => ?_⟩
      have nl2 : l2 ≠ so := by
        obtain ⟨_, _, _, q, _⟩ := sr12
        exact fun e => ne_of_none q hl2 e.symm
      have nt : t ≠ so := by
        obtain ⟨_, _, _, q, _⟩ := sr13
        exact ne_of et q (by intro z; cases z)
      have llC := llB.sx sr12 nl sx13
      have sxC := (sxB.trans sx12).trans sx13
      clear llB ll sx12 sx13 sr12 sr9 e59 e6 s69 scr hv sxB sxA
      repeat walk_at "rs"
      walk_at "nm"
      refine r_itup ?_
      repeat walk_at "rs"
      refine ⟨by show 2 ≤ sizeLine; decide, fun t1 ht1 => ?_⟩
      have S1 := Same.new (o := HO.tup [.int (1 + r), .ref l]) ht1
      have e1 : (upd H13 t1 (.tup [.int (1 + r), .ref l])) t1 = some (.tup [.int (1 + r), .ref l]) := upd_same
      have sxD := sxC.trans (Sx.of S1)
      have srD := sr13.same S1
      have etD := S1 _ _ et
      have llD := llC.same S1
      have ll2D := ll2.same S1
      have nt1 : t1 ≠ so := by
        obtain ⟨_, _, _, q, _⟩ := srD
        exact ne_of e1 q (by intro z; cases z)
      revert e1 sxD srD etD llD ll2D
      generalize upd H13 t1 (.tup [.int (1 + r), .ref l]) = H14
      intro e1 sxD srD etD llD ll2D
      clear S1 llC ll2 et sr13 sxC
      repeat walk_at "rs"
      refine ⟨by show 2 ≤ sizeLine; decide, fun t2 ht2 => ?_⟩
      have S2 := Same.new (o := HO.tup [.ref t1, .ref t]) ht2
      have e2 : (upd H14 t2 (.tup [.ref t1, .ref t])) t2 = some (.tup [.ref t1, .ref t]) := upd_same
      have sxE := sxD.trans (Sx.of S2)
      have srE := srD.same S2
      have etE := S2 _ _ etD
      have e1E := S2 _ _ e1
      have llE := llD.same S2
      have ll2E := ll2D.same S2
      have nt2 : t2 ≠ so := by
        obtain ⟨_, _, _, q, _⟩ := srE
        exact ne_of e2 q (by intro z; cases z)
      revert e2 sxE srE etE e1E llE ll2E
      generalize upd H14 t2 (.tup [.ref t1, .ref t]) = H15
      intro e2 sxE srE etE e1E llE ll2E
      clear S2 llD ll2D etD e1 srD sxD
      refine ⟨t2, rfl, ⟨_, ste e2⟩, ?_⟩
      refine for_gen 2 (fun j σ H' => ∃ y7 y8, σ = [some (.ref a), some (.int (i : Nat)), some (.int cell), some (.ref so), some (.int (1 + r)), some (.ref l), some (.ref t), y7, y8] ∧ Sx so H15 H' ∧ Src so (1000 + 100 * j) H') ⟨y7, y8, rfl, Sx.refl _ _, srE.le (by omega)⟩ ?_ ?_ ?_ ?_
      · rintro σ H' ⟨y7, y8, rfl, sx, sr⟩
        exact ⟨_, ste (sx _ _ nt2 e2), Nat.le_refl _⟩
      · rintro j σ H' hj ⟨y7, y8, rfl, sx, sr⟩
        obtain ⟨z, hz⟩ := get_of (xs := [V.ref t1, V.ref t]) (i := j) hj
        exact ⟨_, z, ste (sx _ _ nt2 e2), hz⟩
      · rintro j σ H16 x H17 hj ⟨y7, y8, rfl, sx, sr⟩ ⟨rfl, g1⟩
        have gy := g1 _ (ste (sx _ _ nt2 e2))
        have hy : ∃ (tt ll : Addr) (wx : Int) (lx : List (Int × Int)), x = .ref tt ∧ tt ≠ so ∧ ll ≠ so ∧ H15 tt = some (.tup [.int wx, .ref ll]) ∧ LotAt H15 ll lx ∧ RingOk wx lx := by
          rcases (show j = 0 ∨ j = 1 by omega) with rfl | rfl
          · exact ⟨t1, l, _, _, (Option.some.inj gy).symm, nt1, nl, e1E, llE, R⟩
          · exact ⟨t, l2, _, _, (Option.some.inj gy).symm, nt, nl2, etE, ll2E, R2⟩
        obtain ⟨tt, lx, wx, lotx, rfl, ntt, nlx, ett, llx, Rx⟩ := hy
        have ett2 := sx _ _ ntt ett
        have llx2 : LotAt H17 lx lotx := llx.sx srE nlx sx
        clear gy g1
        repeat walk_at "rs"
        refine r_gtup (ste ett2) rfl ?_
        repeat walk_at "rs"
        walk_at "nm"
        repeat walk_at "rs"
        refine ⟨so, lx, wx, lotx, _, rfl, sr, llx2, Rx, nlx, by omega, fun H18 sx18 sr18 => ?_⟩
        repeat walk_at "rs"
        refine iteF' rfl ?_
        repeat walk_at "rs"
        refine ⟨so, lx, wx, lotx, _, rfl, sr18, llx2.sx sr nlx sx18, Rx, nlx, by omega, fun H19 sx19 sr19 => ?_⟩
        repeat walk_at "rs"
        exact ⟨_, _, rfl, (sx.trans sx18).trans sx19, sr19.le (by omega)⟩
      · rintro σ H16 ⟨y7, y8, rfl, sx, sr⟩
        exact ⟨_, _, _, _, _, _, _, _, rfl, Sx.fresh (sxE.trans sx) s36 nso3⟩
    · rintro σ H4 ⟨y1, y2, y3, y4, y5, y6, y7, y8, rfl, sm⟩
      repeat walk_at "rs"
      refine ⟨by show 2 ≤ sizeLine; decide, fun ta0 hta0 => ?_⟩
      have sta0 := Same.new (o := HO.tup [.int 0, .int 2]) hta0
      have eta0 : (upd H4 ta0 (.tup [.int 0, .int 2])) ta0 = some (.tup [.int 0, .int 2]) := upd_same
      revert eta0
      generalize upd H4 ta0 (.tup [.int 0, .int 2]) = TAH0
      intro eta0
      repeat walk_at "rs"
      refine ⟨by show 2 ≤ sizeLine; decide, fun ta1 hta1 => ?_⟩
      have sta1 := Same.new (o := HO.tup [.int 1, .int 2]) hta1
      have eta1 : (upd TAH0 ta1 (.tup [.int 1, .int 2])) ta1 = some (.tup [.int 1, .int 2]) := upd_same
      have eta0 := sta1 _ _ eta0
      revert eta1 eta0
      generalize upd TAH0 ta1 (.tup [.int 1, .int 2]) = TAH1
      intro eta1 eta0
      repeat walk_at "rs"
      refine ⟨by show 2 ≤ sizeLine; decide, fun ta2 hta2 => ?_⟩
      have sta2 := Same.new (o := HO.tup [.int 2, .int 1]) hta2
      have eta2 : (upd TAH1 ta2 (.tup [.int 2, .int 1])) ta2 = some (.tup [.int 2, .int 1]) := upd_same
      have eta0 := sta2 _ _ eta0
      have eta1 := sta2 _ _ eta1
      revert eta2 eta0 eta1
      generalize upd TAH1 ta2 (.tup [.int 2, .int 1]) = TAH2
      intro eta2 eta0 eta1
      repeat walk_at "rs"
      refine ⟨by show 3 ≤ sizeLine; decide, fun l0 hl0 => ?_⟩
      have s4 := Same.new (o := .lst [.ref ta0, .ref ta1, .ref ta2]) hl0
      have el : LotAt (upd TAH2 l0 (.lst [.ref ta0, .ref ta1, .ref ta2])) l0 [(0, 2), (1, 2), (2, 1)] := ⟨[ta0, ta1, ta2], upd_same, .cons (s4 _ _ eta0) (.cons (s4 _ _ eta1) (.cons (s4 _ _ eta2) .nil))⟩
      revert el
      generalize upd TAH2 l0 (.lst [.ref ta0, .ref ta1, .ref ta2]) = G4
      intro el
      repeat walk_at "rs"
      have R : RingOk 4 [(0, 2), (1, 2), (2, 1)] := ⟨by decide, by decide, by decide, by decide, fun p hp => by
        rcases List.mem_cons.mp hp with rfl | hp
        · exact ⟨by decide, by decide, by decide, by decide⟩
        · rcases List.mem_cons.mp hp with rfl | hp
          · exact ⟨by decide, by decide, by decide, by decide⟩
          · rw [List.mem_singleton.mp hp]
            exact ⟨by decide, by decide, by decide, by decide⟩⟩
      have F : Fits 4 10 [(0, 2), (1, 2), (2, 1)] := ⟨by decide, by decide⟩
      refine ⟨4, 10, l0, _, rfl, el, R, by decide, by decide, fun _ q G5 s5 hq lq => ?_, fun z => absurd F z⟩
      have nm := nice_lotR (w := 4 * 10) F.1 (by decide) (ring_mult R (by decide) F).rc
      repeat walk_at "rs"
      refine ⟨by show 2 ≤ sizeLine; decide, fun tb0 htb0 => ?_⟩
      have stb0 := Same.new (o := HO.tup [.int 0, .int 20]) htb0
      have etb0 : (upd G5 tb0 (.tup [.int 0, .int 20])) tb0 = some (.tup [.int 0, .int 20]) := upd_same
      have lq := lq.same stb0
      revert etb0 lq
      generalize upd G5 tb0 (.tup [.int 0, .int 20]) = TBH0
      intro etb0 lq
      repeat walk_at "rs"
      refine ⟨by show 2 ≤ sizeLine; decide, fun tb1 htb1 => ?_⟩
      have stb1 := Same.new (o := HO.tup [.int 10, .int 20]) htb1
      have etb1 : (upd TBH0 tb1 (.tup [.int 10, .int 20])) tb1 = some (.tup [.int 10, .int 20]) := upd_same
      have etb0 := stb1 _ _ etb0
      have lq := lq.same stb1
      revert etb1 etb0 lq
      generalize upd TBH0 tb1 (.tup [.int 10, .int 20]) = TBH1
      intro etb1 etb0 lq
      repeat walk_at "rs"
      refine ⟨by show 2 ≤ sizeLine; decide, fun tb2 htb2 => ?_⟩
      have stb2 := Same.new (o := HO.tup [.int 20, .int 10]) htb2
      have etb2 : (upd TBH1 tb2 (.tup [.int 20, .int 10])) tb2 = some (.tup [.int 20, .int 10]) := upd_same
      have etb0 := stb2 _ _ etb0
      have etb1 := stb2 _ _ etb1
      have lq := lq.same stb2
      revert etb2 etb0 etb1 lq
      generalize upd TBH1 tb2 (.tup [.int 20, .int 10]) = TBH2
      intro etb2 etb0 etb1 lq
      repeat walk_at "rs"
      refine ⟨by show 3 ≤ sizeLine; decide, fun l9 hl9 => ?_⟩
      have s9 := Same.new (o := .lst [.ref tb0, .ref tb1, .ref tb2]) hl9
      have el9 : LotAt (upd TBH2 l9 (.lst [.ref tb0, .ref tb1, .ref tb2])) l9 (multF 10 [(0, 2), (1, 2), (2, 1)]) := ⟨[tb0, tb1, tb2], upd_same, .cons (s9 _ _ etb0) (.cons (s9 _ _ etb1) (.cons (s9 _ _ etb2) .nil))⟩
      refine r_eqDD (dp_lot (lq.same s9)) (dp_lot el9) (nm.shaped (by decide)) nm.cl ?_
      exact k _
end
end R04
namespace R04
open PySem PySem.Spec PyProof.Rows L2 Rg
theorem all_mk {l : PySem.W.OpenLaw} {w : World} {K : PySem.W.Frag} {h : Heap} {mg : Str → Option Value} {fa : Addr} (X : K.In h) (G : h.Ns mainGlobals mg) (hfa : mg "law" = some (.ref fa))
    {f0 f1 f2 f3 f4 f5 f6 f7 f8 f9 f10 f11 f12 f13 f14 f15 f16 f17 f18 f19 f20 f21 f22 f23 f24 f25 : Addr} {od0 od1 od2 od3 od4 od5 od6 od7 od8 od9 od10 od11 od12 od13 od14 od15 od16 od17 od18 od19 od20 od21 od22 od23 od24 od25 an0 an1 an2 an3 an4 an5 an6 an7 an8 an9 an10 an11 an12 an13 an14 an15 an16 an17 an18 an19 an20 an21 an22 an23 an24 an25 : Option Addr}
    {sl0 sl1 sl2 sl3 sl4 sl5 sl6 sl7 sl8 sl9 sl10 sl11 sl12 sl13 sl14 sl15 sl16 sl17 sl18 sl19 sl20 sl21 sl22 sl23 sl24 sl25 : Array (Option Value)} {oc0 oc1 oc2 oc3 oc4 oc5 oc6 oc7 oc8 oc9 oc10 oc11 oc12 oc13 oc14 oc15 oc16 oc17 oc18 oc19 oc20 oc21 oc22 oc23 oc24 oc25 kV0 kV1 kV2 kV3 kV4 kV5 kV6 kV7 kV8 kV9 kV10 kV11 kV12 kV13 kV14 kV15 kV16 kV17 kV18 kV19 kV20 kV21 kV22 kV23 kV24 kV25 dc0 dc1 dc2 dc3 dc4 dc5 dc6 dc7 dc8 dc9 dc10 dc11 dc12 dc13 dc14 dc15 dc16 dc17 dc18 dc19 dc20 dc21 dc22 dc23 dc24 dc25 pm0 pm1 pm2 pm3 pm4 pm5 pm6 pm7 pm8 pm9 pm10 pm11 pm12 pm13 pm14 pm15 pm16 pm17 pm18 pm19 pm20 pm21 pm22 pm23 pm24 pm25 cd0 cd1 cd2 cd3 cd4 cd5 cd6 cd7 cd8 cd9 cd10 cd11 cd12 cd13 cd14 cd15 cd16 cd17 cd18 cd19 cd20 cd21 cd22 cd23 cd24 cd25 ct0 ct1 ct2 ct3 ct4 ct5 ct6 ct7 ct8 ct9 ct10 ct11 ct12 ct13 ct14 ct15 ct16 ct17 ct18 ct19 ct20 ct21 ct22 ct23 ct24 ct25 : Value}
    (a0 : PySem.W.nsIn K mainGlobals "is_integer" = some (some (.ref f0)))
    (l0 : K.lookup f0 = some ⟨oc0, od0, .func (PySem.W.fnOf "is_integer" "is_integer" (defArgs s_is_integer) (defBody s_is_integer) (defScope s_is_integer) .none kV0 dc0 pm0 an0 cd0 ct0), sl0⟩)
    (c0 : PySem.W.codeIn K cd0 "is_integer" = true) (k0 : PySem.W.keepIn K (.ref f0) = true)
    (a1 : PySem.W.nsIn K mainGlobals "is_between" = some (some (.ref f1)))
    (l1 : K.lookup f1 = some ⟨oc1, od1, .func (PySem.W.fnOf "is_between" "is_between" (defArgs s_is_between) (defBody s_is_between) (defScope s_is_between) .none kV1 dc1 pm1 an1 cd1 ct1), sl1⟩)
    (c1 : PySem.W.codeIn K cd1 "is_between" = true) (k1 : PySem.W.keepIn K (.ref f1) = true)
    (a2 : PySem.W.nsIn K mainGlobals "is_from" = some (some (.ref f2)))
    (l2 : K.lookup f2 = some ⟨oc2, od2, .func (PySem.W.fnOf "is_from" "is_from" (defArgs s_is_from) (defBody s_is_from) (defScope s_is_from) .none kV2 dc2 pm2 an2 cd2 ct2), sl2⟩)
    (c2 : PySem.W.codeIn K cd2 "is_from" = true) (k2 : PySem.W.keepIn K (.ref f2) = true)
    (a3 : PySem.W.nsIn K mainGlobals "is_list" = some (some (.ref f3)))
    (l3 : K.lookup f3 = some ⟨oc3, od3, .func (PySem.W.fnOf "is_list" "is_list" (defArgs s_is_list) (defBody s_is_list) (defScope s_is_list) .none kV3 dc3 pm3 an3 cd3 ct3), sl3⟩)
    (c3 : PySem.W.codeIn K cd3 "is_list" = true) (k3 : PySem.W.keepIn K (.ref f3) = true)
    (a4 : PySem.W.nsIn K mainGlobals "is_mark" = some (some (.ref f4)))
    (l4 : K.lookup f4 = some ⟨oc4, od4, .func (PySem.W.fnOf "is_mark" "is_mark" (defArgs s_is_mark) (defBody s_is_mark) (defScope s_is_mark) .none kV4 dc4 pm4 an4 cd4 ct4), sl4⟩)
    (c4 : PySem.W.codeIn K cd4 "is_mark" = true) (k4 : PySem.W.keepIn K (.ref f4) = true)
    (a5 : PySem.W.nsIn K mainGlobals "is_record" = some (some (.ref f5)))
    (l5 : K.lookup f5 = some ⟨oc5, od5, .func (PySem.W.fnOf "is_record" "is_record" (defArgs s_is_record) (defBody s_is_record) (defScope s_is_record) .none kV5 dc5 pm5 an5 cd5 ct5), sl5⟩)
    (c5 : PySem.W.codeIn K cd5 "is_record" = true) (k5 : PySem.W.keepIn K (.ref f5) = true)
    (a6 : PySem.W.nsIn K mainGlobals "check_marks" = some (some (.ref f6)))
    (l6 : K.lookup f6 = some ⟨oc6, od6, .func (PySem.W.fnOf "check_marks" "check_marks" (defArgs s_check_marks) (defBody s_check_marks) (defScope s_check_marks) .none kV6 dc6 pm6 an6 cd6 ct6), sl6⟩)
    (c6 : PySem.W.codeIn K cd6 "check_marks" = true) (k6 : PySem.W.keepIn K (.ref f6) = true)
    (a7 : PySem.W.nsIn K mainGlobals "check_ring" = some (some (.ref f7)))
    (l7 : K.lookup f7 = some ⟨oc7, od7, .func (PySem.W.fnOf "check_ring" "check_ring" (defArgs s_check_ring) (defBody s_check_ring) (defScope s_check_ring) .none kV7 dc7 pm7 an7 cd7 ct7), sl7⟩)
    (c7 : PySem.W.codeIn K cd7 "check_ring" = true) (k7 : PySem.W.keepIn K (.ref f7) = true)
    (a8 : PySem.W.nsIn K mainGlobals "check_mark" = some (some (.ref f8)))
    (l8 : K.lookup f8 = some ⟨oc8, od8, .func (PySem.W.fnOf "check_mark" "check_mark" (defArgs s_check_mark) (defBody s_check_mark) (defScope s_check_mark) .none kV8 dc8 pm8 an8 cd8 ct8), sl8⟩)
    (c8 : PySem.W.codeIn K cd8 "check_mark" = true) (k8 : PySem.W.keepIn K (.ref f8) = true)
    (a9 : PySem.W.nsIn K mainGlobals "check_integer" = some (some (.ref f9)))
    (l9 : K.lookup f9 = some ⟨oc9, od9, .func (PySem.W.fnOf "check_integer" "check_integer" (defArgs s_check_integer) (defBody s_check_integer) (defScope s_check_integer) .none kV9 dc9 pm9 an9 cd9 ct9), sl9⟩)
    (c9 : PySem.W.codeIn K cd9 "check_integer" = true) (k9 : PySem.W.keepIn K (.ref f9) = true)
    (a10 : PySem.W.nsIn K mainGlobals "check_least" = some (some (.ref f10)))
    (l10 : K.lookup f10 = some ⟨oc10, od10, .func (PySem.W.fnOf "check_least" "check_least" (defArgs s_check_least) (defBody s_check_least) (defScope s_check_least) .none kV10 dc10 pm10 an10 cd10 ct10), sl10⟩)
    (c10 : PySem.W.codeIn K cd10 "check_least" = true) (k10 : PySem.W.keepIn K (.ref f10) = true)
    (a11 : PySem.W.nsIn K mainGlobals "end_of" = some (some (.ref f11)))
    (l11 : K.lookup f11 = some ⟨oc11, od11, .func (PySem.W.fnOf "end_of" "end_of" (defArgs s_end_of) (defBody s_end_of) (defScope s_end_of) .none kV11 dc11 pm11 an11 cd11 ct11), sl11⟩)
    (c11 : PySem.W.codeIn K cd11 "end_of" = true) (k11 : PySem.W.keepIn K (.ref f11) = true)
    (a12 : PySem.W.nsIn K mainGlobals "times_over" = some (some (.ref f12)))
    (l12 : K.lookup f12 = some ⟨oc12, od12, .func (PySem.W.fnOf "times_over" "times_over" (defArgs s_times_over) (defBody s_times_over) (defScope s_times_over) .none kV12 dc12 pm12 an12 cd12 ct12), sl12⟩)
    (c12 : PySem.W.codeIn K cd12 "times_over" = true) (k12 : PySem.W.keepIn K (.ref f12) = true)
    (a13 : PySem.W.nsIn K mainGlobals "cover_of" = some (some (.ref f13)))
    (l13 : K.lookup f13 = some ⟨oc13, od13, .func (PySem.W.fnOf "cover_of" "cover_of" (defArgs s_cover_of) (defBody s_cover_of) (defScope s_cover_of) .none kV13 dc13 pm13 an13 cd13 ct13), sl13⟩)
    (c13 : PySem.W.codeIn K cd13 "cover_of" = true) (k13 : PySem.W.keepIn K (.ref f13) = true)
    (a14 : PySem.W.nsIn K mainGlobals "cover_at" = some (some (.ref f14)))
    (l14 : K.lookup f14 = some ⟨oc14, od14, .func (PySem.W.fnOf "cover_at" "cover_at" (defArgs s_cover_at) (defBody s_cover_at) (defScope s_cover_at) .none kV14 dc14 pm14 an14 cd14 ct14), sl14⟩)
    (c14 : PySem.W.codeIn K cd14 "cover_at" = true) (k14 : PySem.W.keepIn K (.ref f14) = true)
    (a15 : PySem.W.nsIn K mainGlobals "moved" = some (some (.ref f15)))
    (l15 : K.lookup f15 = some ⟨oc15, od15, .func (PySem.W.fnOf "moved" "moved" (defArgs s_moved) (defBody s_moved) (defScope s_moved) .none kV15 dc15 pm15 an15 cd15 ct15), sl15⟩)
    (c15 : PySem.W.codeIn K cd15 "moved" = true) (k15 : PySem.W.keepIn K (.ref f15) = true)
    (a16 : PySem.W.nsIn K mainGlobals "mirrored" = some (some (.ref f16)))
    (l16 : K.lookup f16 = some ⟨oc16, od16, .func (PySem.W.fnOf "mirrored" "mirrored" (defArgs s_mirrored) (defBody s_mirrored) (defScope s_mirrored) .none kV16 dc16 pm16 an16 cd16 ct16), sl16⟩)
    (c16 : PySem.W.codeIn K cd16 "mirrored" = true) (k16 : PySem.W.keepIn K (.ref f16) = true)
    (a17 : PySem.W.nsIn K mainGlobals "multiplied" = some (some (.ref f17)))
    (l17 : K.lookup f17 = some ⟨oc17, od17, .func (PySem.W.fnOf "multiplied" "multiplied" (defArgs s_multiplied) (defBody s_multiplied) (defScope s_multiplied) .none kV17 dc17 pm17 an17 cd17 ct17), sl17⟩)
    (c17 : PySem.W.codeIn K cd17 "multiplied" = true) (k17 : PySem.W.keepIn K (.ref f17) = true)
    (a18 : PySem.W.nsIn K mainGlobals "_law_source" = some (some (.ref f18)))
    (l18 : K.lookup f18 = some ⟨oc18, od18, .func (PySem.W.fnOf "_law_source" "_law_source" (defArgs s_law_source) (defBody s_law_source) (defScope s_law_source) .none kV18 dc18 pm18 an18 cd18 ct18), sl18⟩)
    (c18 : PySem.W.codeIn K cd18 "_law_source" = true) (k18 : PySem.W.keepIn K (.ref f18) = true)
    (a19 : PySem.W.nsIn K mainGlobals "_law_draw" = some (some (.ref f19)))
    (l19 : K.lookup f19 = some ⟨oc19, od19, .func (PySem.W.fnOf "_law_draw" "_law_draw" (defArgs s_law_draw) (defBody s_law_draw) (defScope s_law_draw) .none kV19 dc19 pm19 an19 cd19 ct19), sl19⟩)
    (c19 : PySem.W.codeIn K cd19 "_law_draw" = true) (k19 : PySem.W.keepIn K (.ref f19) = true)
    (a20 : PySem.W.nsIn K mainGlobals "_law_lot" = some (some (.ref f20)))
    (l20 : K.lookup f20 = some ⟨oc20, od20, .func (PySem.W.fnOf "_law_lot" "_law_lot" (defArgs s_law_lot) (defBody s_law_lot) (defScope s_law_lot) .none kV20 dc20 pm20 an20 cd20 ct20), sl20⟩)
    (c20 : PySem.W.codeIn K cd20 "_law_lot" = true) (k20 : PySem.W.keepIn K (.ref f20) = true)
    (a21 : PySem.W.nsIn K mainGlobals "_law_far_lot" = some (some (.ref f21)))
    (l21 : K.lookup f21 = some ⟨oc21, od21, .func (PySem.W.fnOf "_law_far_lot" "_law_far_lot" (defArgs s_law_far_lot) (defBody s_law_far_lot) (defScope s_law_far_lot) .none kV21 dc21 pm21 an21 cd21 ct21), sl21⟩)
    (c21 : PySem.W.codeIn K cd21 "_law_far_lot" = true) (k21 : PySem.W.keepIn K (.ref f21) = true)
    (a22 : PySem.W.nsIn K mainGlobals "_law_times" = some (some (.ref f22)))
    (l22 : K.lookup f22 = some ⟨oc22, od22, .func (PySem.W.fnOf "_law_times" "_law_times" (defArgs s_law_times) (defBody s_law_times) (defScope s_law_times) .none kV22 dc22 pm22 an22 cd22 ct22), sl22⟩)
    (c22 : PySem.W.codeIn K cd22 "_law_times" = true) (k22 : PySem.W.keepIn K (.ref f22) = true)
    (a23 : PySem.W.nsIn K mainGlobals "_law_right" = some (some (.ref f23)))
    (l23 : K.lookup f23 = some ⟨oc23, od23, .func (PySem.W.fnOf "_law_right" "_law_right" (defArgs s_law_right) (defBody s_law_right) (defScope s_law_right) .none kV23 dc23 pm23 an23 cd23 ct23), sl23⟩)
    (c23 : PySem.W.codeIn K cd23 "_law_right" = true) (k23 : PySem.W.keepIn K (.ref f23) = true)
    (a24 : PySem.W.nsIn K mainGlobals "_law_times_right" = some (some (.ref f24)))
    (l24 : K.lookup f24 = some ⟨oc24, od24, .func (PySem.W.fnOf "_law_times_right" "_law_times_right" (defArgs s_law_times_right) (defBody s_law_times_right) (defScope s_law_times_right) .none kV24 dc24 pm24 an24 cd24 ct24), sl24⟩)
    (c24 : PySem.W.codeIn K cd24 "_law_times_right" = true) (k24 : PySem.W.keepIn K (.ref f24) = true)
    (a25 : PySem.W.nsIn K mainGlobals "law" = some (some (.ref f25)))
    (l25 : K.lookup f25 = some ⟨oc25, od25, .func (PySem.W.fnOf "law" "law" (defArgs s_law) (defBody s_law) (defScope s_law) .none kV25 dc25 pm25 an25 cd25 ct25), sl25⟩)
    (c25 : PySem.W.codeIn K cd25 "law" = true) (k25 : PySem.W.keepIn K (.ref f25) = true)
    (z_abs : PySem.W.nsIn K mainGlobals "abs" = some none)
    (z_bool : PySem.W.nsIn K mainGlobals "bool" = some none)
    (z_enumerate : PySem.W.nsIn K mainGlobals "enumerate" = some none)
    (z_int : PySem.W.nsIn K mainGlobals "int" = some none)
    (z_isinstance : PySem.W.nsIn K mainGlobals "isinstance" = some none)
    (z_len : PySem.W.nsIn K mainGlobals "len" = some none)
    (z_list : PySem.W.nsIn K mainGlobals "list" = some none)
    (z_max : PySem.W.nsIn K mainGlobals "max" = some none)
    (z_min : PySem.W.nsIn K mainGlobals "min" = some none)
    (z_range : PySem.W.nsIn K mainGlobals "range" = some none)
    (z_repr : PySem.W.nsIn K mainGlobals "repr" = some none)
    (z_sum : PySem.W.nsIn K mainGlobals "sum" = some none)
    (z_tuple : PySem.W.nsIn K mainGlobals "tuple" = some none)
    (z_type : PySem.W.nsIn K mainGlobals "type" = some none)
    {t_MOST_LENGTH : Tok} (q_MOST_LENGTH : PySem.W.nsIn K mainGlobals "MOST_LENGTH" = some (some (.int (10000000000000000000000000000000) t_MOST_LENGTH)))
    {t_MOST_MARKS : Tok} (q_MOST_MARKS : PySem.W.nsIn K mainGlobals "MOST_MARKS" = some (some (.int (1000000000000000000000000000000) t_MOST_MARKS)))
    {t_MOST_RECORDS : Tok} (q_MOST_RECORDS : PySem.W.nsIn K mainGlobals "MOST_RECORDS" = some (some (.int (30) t_MOST_RECORDS)))
    {e_Impossible : Addr} (xa_Impossible : PySem.W.nsIn K mainGlobals "Impossible" = some (some (.ref e_Impossible))) (xb_Impossible : PySem.W.excIn K e_Impossible [.type "ValueError", .type "Exception", .type "BaseException", .type "object"] "ValueError.__new__" = true) (xc_Impossible : PySem.W.keepIn K (.ref e_Impossible) = true)
    (xd_Impossible : PySem.W.subIn K (.ref e_Impossible) (.type "BaseException") = some true) (xe_Impossible : PySem.W.typeIn K (.ref e_Impossible) = some (.type "type")) (xf_Impossible : PySem.W.isClsIn K e_Impossible = true) (xg_Impossible : PySem.W.subIn K (.ref e_Impossible) (.ref e_Impossible) = some true)
    : ∃ fd : FuncData, (∀ (s : Shared) (v : Value), BindsTo s fd ⟨[v], []⟩ [("script", v)]) ∧ ∀ base : Heap, K.In base → base.Ns mainGlobals mg → FnG l.prog w K mg base CX0 9 fa fd ["script"] (spLaw K) := by
  have e := hfa.symm.trans (PySem.W.mg_of X G a25)
  cases e
  have w_MOST_LENGTH : mg "MOST_LENGTH" = some (.int (10 ^ 31) t_MOST_LENGTH) := (PySem.W.mg_of X G q_MOST_LENGTH).trans (congrArg (fun z => some (Value.int z t_MOST_LENGTH)) (by decide))
  have w_MOST_MARKS : mg "MOST_MARKS" = some (.int (10 ^ 30) t_MOST_MARKS) := (PySem.W.mg_of X G q_MOST_MARKS).trans (congrArg (fun z => some (Value.int z t_MOST_MARKS)) (by decide))
  have w_MOST_RECORDS : mg "MOST_RECORDS" = some (.int (30) t_MOST_RECORDS) := (PySem.W.mg_of X G q_MOST_RECORDS).trans (congrArg (fun z => some (Value.int z t_MOST_RECORDS)) (by decide))
  have F0 := fun_mk (st := s_is_integer) l0 c0 k0
  have B0 := F0.binds (ps := P_is_integer) fun _ _ _ _ _ _ us hl => match us, hl with | [_], _ => rfl
  have F1 := fun_mk (st := s_is_between) l1 c1 k1
  have B1 := F1.binds (ps := P_is_between) fun _ _ _ _ _ _ us hl => match us, hl with | [_, _, _], _ => rfl
  have F2 := fun_mk (st := s_is_from) l2 c2 k2
  have B2 := F2.binds (ps := P_is_from) fun _ _ _ _ _ _ us hl => match us, hl with | [_, _], _ => rfl
  have F3 := fun_mk (st := s_is_list) l3 c3 k3
  have B3 := F3.binds (ps := P_is_list) fun _ _ _ _ _ _ us hl => match us, hl with | [_, _, _], _ => rfl
  have F4 := fun_mk (st := s_is_mark) l4 c4 k4
  have B4 := F4.binds (ps := P_is_mark) fun _ _ _ _ _ _ us hl => match us, hl with | [_, _], _ => rfl
  have F5 := fun_mk (st := s_is_record) l5 c5 k5
  have B5 := F5.binds (ps := P_is_record) fun _ _ _ _ _ _ us hl => match us, hl with | [_, _], _ => rfl
  have F6 := fun_mk (st := s_check_marks) l6 c6 k6
  have B6 := F6.binds (ps := P_check_marks) fun _ _ _ _ _ _ us hl => match us, hl with | [_], _ => rfl
  have F7 := fun_mk (st := s_check_ring) l7 c7 k7
  have B7 := F7.binds (ps := P_check_ring) fun _ _ _ _ _ _ us hl => match us, hl with | [_, _], _ => rfl
  have F8 := fun_mk (st := s_check_mark) l8 c8 k8
  have B8 := F8.binds (ps := P_check_mark) fun _ _ _ _ _ _ us hl => match us, hl with | [_, _], _ => rfl
  have F9 := fun_mk (st := s_check_integer) l9 c9 k9
  have B9 := F9.binds (ps := P_check_integer) fun _ _ _ _ _ _ us hl => match us, hl with | [_], _ => rfl
  have F10 := fun_mk (st := s_check_least) l10 c10 k10
  have B10 := F10.binds (ps := P_check_least) fun _ _ _ _ _ _ us hl => match us, hl with | [_, _], _ => rfl
  have F11 := fun_mk (st := s_end_of) l11 c11 k11
  have B11 := F11.binds (ps := P_end_of) fun _ _ _ _ _ _ us hl => match us, hl with | [_, _], _ => rfl
  have F12 := fun_mk (st := s_times_over) l12 c12 k12
  have B12 := F12.binds (ps := P_times_over) fun _ _ _ _ _ _ us hl => match us, hl with | [_, _, _], _ => rfl
  have F13 := fun_mk (st := s_cover_of) l13 c13 k13
  have B13 := F13.binds (ps := P_cover_of) fun _ _ _ _ _ _ us hl => match us, hl with | [_, _, _], _ => rfl
  have F14 := fun_mk (st := s_cover_at) l14 c14 k14
  have B14 := F14.binds (ps := P_cover_at) fun _ _ _ _ _ _ us hl => match us, hl with | [_, _, _], _ => rfl
  have F15 := fun_mk (st := s_moved) l15 c15 k15
  have B15 := F15.binds (ps := P_moved) fun _ _ _ _ _ _ us hl => match us, hl with | [_, _, _], _ => rfl
  have F16 := fun_mk (st := s_mirrored) l16 c16 k16
  have B16 := F16.binds (ps := P_mirrored) fun _ _ _ _ _ _ us hl => match us, hl with | [_, _], _ => rfl
  have F17 := fun_mk (st := s_multiplied) l17 c17 k17
  have B17 := F17.binds (ps := P_multiplied) fun _ _ _ _ _ _ us hl => match us, hl with | [_, _, _], _ => rfl
  have F18 := fun_mk (st := s_law_source) l18 c18 k18
  have B18 := F18.binds (ps := P_law_source) fun _ _ _ _ _ _ us hl => match us, hl with | [_, _], _ => rfl
  have F19 := fun_mk (st := s_law_draw) l19 c19 k19
  have B19 := F19.binds (ps := P_law_draw) fun _ _ _ _ _ _ us hl => match us, hl with | [_, _], _ => rfl
  have F20 := fun_mk (st := s_law_lot) l20 c20 k20
  have B20 := F20.binds (ps := P_law_lot) fun _ _ _ _ _ _ us hl => match us, hl with | [_, _, _], _ => rfl
  have F21 := fun_mk (st := s_law_far_lot) l21 c21 k21
  have B21 := F21.binds (ps := P_law_far_lot) fun _ _ _ _ _ _ us hl => match us, hl with | [_, _], _ => rfl
  have F22 := fun_mk (st := s_law_times) l22 c22 k22
  have B22 := F22.binds (ps := P_law_times) fun _ _ _ _ _ _ us hl => match us, hl with | [_, _, _], _ => rfl
  have F23 := fun_mk (st := s_law_right) l23 c23 k23
  have B23 := F23.binds (ps := P_law_right) fun _ _ _ _ _ _ us hl => match us, hl with | [_, _, _], _ => rfl
  have F24 := fun_mk (st := s_law_times_right) l24 c24 k24
  have B24 := F24.binds (ps := P_law_times_right) fun _ _ _ _ _ _ us hl => match us, hl with | [_, _, _], _ => rfl
  have F25 := fun_mk (st := s_law) l25 c25 k25
  have B25 := F25.binds (ps := P_law) fun _ _ _ _ _ _ us hl => match us, hl with | [_], _ => rfl
  have K_kb0_moved := KwB.of (ps := P_moved) (ks := ["by", "records", "marks"]) (js := [2, 1, 0]) F15 (by decide) fun _ _ _ _ _ _ us hl => match us, hl with | [_, _, _], _ => rfl
  have K_kb1_mirrored := KwB.of (ps := P_mirrored) (ks := ["records", "marks"]) (js := [1, 0]) F16 (by decide) fun _ _ _ _ _ _ us hl => match us, hl with | [_, _], _ => rfl
  have K_kb2_multiplied := KwB.of (ps := P_multiplied) (ks := ["factor", "records", "marks"]) (js := [2, 1, 0]) F17 (by decide) fun _ _ _ _ _ _ us hl => match us, hl with | [_, _, _], _ => rfl
  let T : Tx K mg := {
    a_is_integer := _, d_is_integer := _, p_is_integer := ⟨F0, B0, PySem.W.mg_of X G a0⟩,
    a_is_between := _, d_is_between := _, p_is_between := ⟨F1, B1, PySem.W.mg_of X G a1⟩,
    a_is_from := _, d_is_from := _, p_is_from := ⟨F2, B2, PySem.W.mg_of X G a2⟩,
    a_is_list := _, d_is_list := _, p_is_list := ⟨F3, B3, PySem.W.mg_of X G a3⟩,
    a_is_mark := _, d_is_mark := _, p_is_mark := ⟨F4, B4, PySem.W.mg_of X G a4⟩,
    a_is_record := _, d_is_record := _, p_is_record := ⟨F5, B5, PySem.W.mg_of X G a5⟩,
    a_check_marks := _, d_check_marks := _, p_check_marks := ⟨F6, B6, PySem.W.mg_of X G a6⟩,
    a_check_ring := _, d_check_ring := _, p_check_ring := ⟨F7, B7, PySem.W.mg_of X G a7⟩,
    a_check_mark := _, d_check_mark := _, p_check_mark := ⟨F8, B8, PySem.W.mg_of X G a8⟩,
    a_check_integer := _, d_check_integer := _, p_check_integer := ⟨F9, B9, PySem.W.mg_of X G a9⟩,
    a_check_least := _, d_check_least := _, p_check_least := ⟨F10, B10, PySem.W.mg_of X G a10⟩,
    a_end_of := _, d_end_of := _, p_end_of := ⟨F11, B11, PySem.W.mg_of X G a11⟩,
    a_times_over := _, d_times_over := _, p_times_over := ⟨F12, B12, PySem.W.mg_of X G a12⟩,
    a_cover_of := _, d_cover_of := _, p_cover_of := ⟨F13, B13, PySem.W.mg_of X G a13⟩,
    a_cover_at := _, d_cover_at := _, p_cover_at := ⟨F14, B14, PySem.W.mg_of X G a14⟩,
    a_moved := _, d_moved := _, p_moved := ⟨F15, B15, PySem.W.mg_of X G a15⟩,
    a_mirrored := _, d_mirrored := _, p_mirrored := ⟨F16, B16, PySem.W.mg_of X G a16⟩,
    a_multiplied := _, d_multiplied := _, p_multiplied := ⟨F17, B17, PySem.W.mg_of X G a17⟩,
    a_law_source := _, d_law_source := _, p_law_source := ⟨F18, B18, PySem.W.mg_of X G a18⟩,
    a_law_draw := _, d_law_draw := _, p_law_draw := ⟨F19, B19, PySem.W.mg_of X G a19⟩,
    a_law_lot := _, d_law_lot := _, p_law_lot := ⟨F20, B20, PySem.W.mg_of X G a20⟩,
    a_law_far_lot := _, d_law_far_lot := _, p_law_far_lot := ⟨F21, B21, PySem.W.mg_of X G a21⟩,
    a_law_times := _, d_law_times := _, p_law_times := ⟨F22, B22, PySem.W.mg_of X G a22⟩,
    a_law_right := _, d_law_right := _, p_law_right := ⟨F23, B23, PySem.W.mg_of X G a23⟩,
    a_law_times_right := _, d_law_times_right := _, p_law_times_right := ⟨F24, B24, PySem.W.mg_of X G a24⟩,
    a_law := _, d_law := _, p_law := ⟨F25, B25, PySem.W.mg_of X G a25⟩,
    kb0_moved := K_kb0_moved,
    kb1_mirrored := K_kb1_mirrored,
    kb2_multiplied := K_kb2_multiplied,
    x_Impossible := e_Impossible, X_Impossible := ⟨PySem.W.mg_of X G xa_Impossible, xb_Impossible, xc_Impossible, xd_Impossible, xe_Impossible, exm_self xd_Impossible xf_Impossible xe_Impossible xg_Impossible⟩,
    n_abs := PySem.W.mg_none_of X G z_abs,
    n_bool := PySem.W.mg_none_of X G z_bool,
    n_enumerate := PySem.W.mg_none_of X G z_enumerate,
    n_int := PySem.W.mg_none_of X G z_int,
    n_isinstance := PySem.W.mg_none_of X G z_isinstance,
    n_len := PySem.W.mg_none_of X G z_len,
    n_list := PySem.W.mg_none_of X G z_list,
    n_max := PySem.W.mg_none_of X G z_max,
    n_min := PySem.W.mg_none_of X G z_min,
    n_range := PySem.W.mg_none_of X G z_range,
    n_repr := PySem.W.mg_none_of X G z_repr,
    n_sum := PySem.W.mg_none_of X G z_sum,
    n_tuple := PySem.W.mg_none_of X G z_tuple,
    n_type := PySem.W.mg_none_of X G z_type,
    t_MOST_LENGTH := _, c_MOST_LENGTH := w_MOST_LENGTH,
    t_MOST_MARKS := _, c_MOST_MARKS := w_MOST_MARKS,
    t_MOST_RECORDS := _, c_MOST_RECORDS := w_MOST_RECORDS }
  exact ⟨_, fun s v => .of_eq rfl, fun base _ _ => ok_law T⟩
theorem walk {l : PySem.W.OpenLaw} {q : Program} {loose : List Str} {XP : (Str → Option Value) → Heap → Prop} {YP : World → Heap → Prop} {d : DefRec} {K : Params → PySem.W.Frag} (hn : l.most = some 63) (hdf : d.params.defaults = [])
    (hY : ∀ (w : World) (h : Heap), YP w h → (K w.params).In h)
    (F : ∀ (w : World) (mg : Str → Option Value) (fa : Addr) (h : Heap), (K w.params).In h → h.Ns mainGlobals mg → mg d.name = some (.ref fa) →
      ∃ fd : FuncData, (∀ (s : Shared) (u : Value), BindsTo s fd ⟨[u], []⟩ [("script", u)]) ∧ ∀ base : Heap, (K w.params).In base → base.Ns mainGlobals mg → FnG l.prog w (K w.params) mg base CX0 9 fa fd ["script"] (spLaw (K w.params))) :
    PySem.W.WalkO q loose XP YP l.row.toRowW d [] (fun f vs => PySem.call f vs) :=
  walkG (n := 63) (k := 9) (x := "script") (sp := spLaw) hn (by decide) hdf ⟨rfl, by decide, by decide⟩ hY F (fun _ _ a ns hl hS => ⟨a, ns, rfl, hS, hl, fun _ => rfl⟩)
end R04
open PySem PySem.W PyProof.Rows in
set_option maxRecDepth 100000 in
set_option maxHeartbeats 0 in
theorem PySem.Challenge.cw_ringreads_k04_records_moved_mirrored_mul_holds : PySem.Challenge.rw_ringreads_k04_records_moved_mirrored_mul.Holds := by
  w_on; o_law; k_head; (case hw => w_witness2)
  k_fill
  refine R04.walk (l := PySem.Challenge.rw_ringreads_k04_records_moved_mirrored_mul) rfl rfl (fun w h Y => PySem.W.kIn_of Y) ?F
  case F =>
    intro w mg fa h KX G hmg
    refine' R04.all_mk KX G hmg ?a0 ?l0 ?c0 ?k0 ?a1 ?l1 ?c1 ?k1 ?a2 ?l2 ?c2 ?k2 ?a3 ?l3 ?c3 ?k3 ?a4 ?l4 ?c4 ?k4 ?a5 ?l5 ?c5 ?k5 ?a6 ?l6 ?c6 ?k6 ?a7 ?l7 ?c7 ?k7 ?a8 ?l8 ?c8 ?k8 ?a9 ?l9 ?c9 ?k9 ?a10 ?l10 ?c10 ?k10 ?a11 ?l11 ?c11 ?k11 ?a12 ?l12 ?c12 ?k12 ?a13 ?l13 ?c13 ?k13 ?a14 ?l14 ?c14 ?k14 ?a15 ?l15 ?c15 ?k15 ?a16 ?l16 ?c16 ?k16 ?a17 ?l17 ?c17 ?k17 ?a18 ?l18 ?c18 ?k18 ?a19 ?l19 ?c19 ?k19 ?a20 ?l20 ?c20 ?k20 ?a21 ?l21 ?c21 ?k21 ?a22 ?l22 ?c22 ?k22 ?a23 ?l23 ?c23 ?k23 ?a24 ?l24 ?c24 ?k24 ?a25 ?l25 ?c25 ?k25 ?z_abs ?z_bool ?z_enumerate ?z_int ?z_isinstance ?z_len ?z_list ?z_max ?z_min ?z_range ?z_repr ?z_sum ?z_tuple ?z_type ?q_MOST_LENGTH ?q_MOST_MARKS ?q_MOST_RECORDS ?xa_Impossible ?xb_Impossible ?xc_Impossible ?xd_Impossible ?xe_Impossible ?xf_Impossible ?xg_Impossible
    (case a0 => k_is)
    (case l0 => k_is)
    (case c0 => k_is)
    (case k0 => k_is)
    (case a1 => k_is)
    (case l1 => k_is)
    (case c1 => k_is)
    (case k1 => k_is)
    (case a2 => k_is)
    (case l2 => k_is)
    (case c2 => k_is)
    (case k2 => k_is)
    (case a3 => k_is)
    (case l3 => k_is)
    (case c3 => k_is)
    (case k3 => k_is)
    (case a4 => k_is)
    (case l4 => k_is)
    (case c4 => k_is)
    (case k4 => k_is)
    (case a5 => k_is)
    (case l5 => k_is)
    (case c5 => k_is)
    (case k5 => k_is)
    (case a6 => k_is)
    (case l6 => k_is)
    (case c6 => k_is)
    (case k6 => k_is)
    (case a7 => k_is)
    (case l7 => k_is)
    (case c7 => k_is)
    (case k7 => k_is)
    (case a8 => k_is)
    (case l8 => k_is)
    (case c8 => k_is)
    (case k8 => k_is)
    (case a9 => k_is)
    (case l9 => k_is)
    (case c9 => k_is)
    (case k9 => k_is)
    (case a10 => k_is)
    (case l10 => k_is)
    (case c10 => k_is)
    (case k10 => k_is)
    (case a11 => k_is)
    (case l11 => k_is)
    (case c11 => k_is)
    (case k11 => k_is)
    (case a12 => k_is)
    (case l12 => k_is)
    (case c12 => k_is)
    (case k12 => k_is)
    (case a13 => k_is)
    (case l13 => k_is)
    (case c13 => k_is)
    (case k13 => k_is)
    (case a14 => k_is)
    (case l14 => k_is)
    (case c14 => k_is)
    (case k14 => k_is)
    (case a15 => k_is)
    (case l15 => k_is)
    (case c15 => k_is)
    (case k15 => k_is)
    (case a16 => k_is)
    (case l16 => k_is)
    (case c16 => k_is)
    (case k16 => k_is)
    (case a17 => k_is)
    (case l17 => k_is)
    (case c17 => k_is)
    (case k17 => k_is)
    (case a18 => k_is)
    (case l18 => k_is)
    (case c18 => k_is)
    (case k18 => k_is)
    (case a19 => k_is)
    (case l19 => k_is)
    (case c19 => k_is)
    (case k19 => k_is)
    (case a20 => k_is)
    (case l20 => k_is)
    (case c20 => k_is)
    (case k20 => k_is)
    (case a21 => k_is)
    (case l21 => k_is)
    (case c21 => k_is)
    (case k21 => k_is)
    (case a22 => k_is)
    (case l22 => k_is)
    (case c22 => k_is)
    (case k22 => k_is)
    (case a23 => k_is)
    (case l23 => k_is)
    (case c23 => k_is)
    (case k23 => k_is)
    (case a24 => k_is)
    (case l24 => k_is)
    (case c24 => k_is)
    (case k24 => k_is)
    (case a25 => k_is)
    (case l25 => k_is)
    (case c25 => k_is)
    (case k25 => k_is)
    (case z_abs => k_is)
    (case z_bool => k_is)
    (case z_enumerate => k_is)
    (case z_int => k_is)
    (case z_isinstance => k_is)
    (case z_len => k_is)
    (case z_list => k_is)
    (case z_max => k_is)
    (case z_min => k_is)
    (case z_range => k_is)
    (case z_repr => k_is)
    (case z_sum => k_is)
    (case z_tuple => k_is)
    (case z_type => k_is)
    (case q_MOST_LENGTH => k_is)
    (case q_MOST_MARKS => k_is)
    (case q_MOST_RECORDS => k_is)
    (case xa_Impossible => k_is)
    (case xb_Impossible => k_exc)
    (case xc_Impossible => k_is)
    (case xd_Impossible => k_is)
    (case xe_Impossible => k_is)
    (case xf_Impossible => k_is)
    (case xg_Impossible => k_is)
