import PyProof.Rows.All
import Wide.All
import OpenK.AllK
import Wide.FinOn
import HandS.ForMost
import HandS.ForExc
import HandS.Codes
import HandS.Lambda
import HandS.EndTab
import HandS.IsInst
import HandS.ExcIs
import HandS.Wide
import HandS.SetFor
import HandS.TupMul
import HandS.Conv
import PySem.Challenge.RW_windowdog_k03_plans_run
set_option Elab.async false
set_option linter.all false
set_option maxRecDepth 100000
set_option maxHeartbeats 4000000
/-! The readings step by step; heaps in which one list (the drawing's) changes. -/
namespace Wd
open PySem PySem.Spec PyProof.Rows L2

/-! ### rules -/
section
variable {X : Cx} {a b c d : Expr} {ta tb tc td : TE} {pos : Pos}
def tChain3 (r r' r2 : R2) (ta tb tc td : TE) : TE := fun σ H Q => ta σ H fun x H1 => tb σ H1 fun y H2 => r x y H2 fun z H3 => ∃ k, z = .bl k ∧
  (if k = true then tc σ H3 fun w' H4 => r' y w' H4 fun z2 H5 => ∃ k2, z2 = .bl k2 ∧ (if k2 = true then td σ H5 fun w2 H6 => r2 w' w2 H6 Q else Q (.bl false) H5) else Q (.bl false) H3)
theorem pe_chain3 {op op' op2 : CmpOp} {r r' r2 : R2} (ho : OpR X (compareOp op) r) (ho' : OpR X (compareOp op') r') (ho2 : OpR X (compareOp op2) r2) (ha : PE X a ta) (hb : PE X b tb) (hc : PE X c tc) (hd : PE X d td)
    (hm : lastMarks [op, op', op2] [b, c, d] = false := by with_unfolding_all rfl) : PE X (.Compare a [op, op', op2] [b, c, d] pos) (tChain3 r r' r2 ta tb tc td) := by
  refine ⟨fun pins s σ H Q I h => ?_⟩
  refine Compare_chain (thn (ha.run pins s σ H _ I h) fun v s1 ⟨x, H1, I1, r1, q1⟩ => chain_link (thn (hb.run pins s1 σ H1 _ I1 q1) fun u s2 ⟨y, H2, I2, r2, q2⟩ =>
    thn (ho pins s2 σ H2 x y v u _ I2 r1 r2 q2) fun d s3 ⟨z, H3, I3, r3, k, e, q3⟩ => ?_)) hm
  subst e
  cases r3
  refine wpAny_truthy_bool ?_
  cases k with
  | false => exact ite_ff ⟨.bl false, H3, I3, rfl, q3⟩
  | true =>
    refine ite_tt (chain_link (thn (hc.run pins s3 σ H3 _ I3 q3) fun w' s4 ⟨z', H4, I4, r4, q4⟩ => thn (ho' pins s4 σ H4 y z' u w' _ I4 r2 r4 q4) fun d5 s5 ⟨z5, H5, I5, r5, k5, e5, q5⟩ => ?_))
    subst e5
    cases r5
    refine wpAny_truthy_bool ?_
    cases k5 with
    | false => exact ite_ff ⟨.bl false, H5, I5, rfl, q5⟩
    | true => exact ite_tt (chain_last (thn (hd.run pins s5 σ H5 _ I5 q5) fun w6 s6 ⟨z6, H6, I6, r6, q6⟩ => ho2 pins s6 σ H6 z' z6 w' w6 Q I6 r4 r6 q6))
end

section
variable {X : Cx} {K : PySem.W.Frag} {name : Str} {T id : String} {r : V → List V → Hp → VK → Prop} {o e : Expr} {es : List Expr} {to : TE} {t : TA} {apos cpos : Pos}
theorem pe_bmK (hK : X.K = K) (pa : PlainAttrs T) (slot : Slot T name id) (hty : typeOf (.builtin id) = pure (.type "method_descriptor")) (hm : MtR X id r) (ho : PE X o to) (ha : PA X (e :: es) t)
    (hbase : attributeBase o name X.env (eval o X.env) = eval o X.env := by rfl)
    (hfew : ((backTo cpos (starEach (e :: es) X.env)).all (fun x => !x.1) && (backToKw cpos (keywordEach [] X.env)).all (fun x => x.1.isSome)
      && decide ((e :: es).length + ([] : List Keyword).length + (if ([] : List Keyword).isEmpty then 0 else 1) < 30)) = true := by rfl)
    (hline : (apos.endLine == cpos.line) = true := by rfl) (hs : starEach (e :: es) X.env = (false, eval e X.env) :: starEach es X.env := by rfl) (hplain : (backTo cpos (starEach es X.env)).any (·.1) = false := by rfl) : PE X (.Call (.Attribute o name apos) (e :: es) [] cpos) (tBM K T r to t) := by
  subst hK; exact pe_bm pa slot hty hm ho ha hbase hfew hline hs hplain
theorem pe_bm0K (hK : X.K = K) (pa : PlainAttrs T) (slot : Slot T name id) (hty : typeOf (.builtin id) = pure (.type "method_descriptor")) (hm : MtR X id r) (ho : PE X o to)
    (hbase : attributeBase o name X.env (eval o X.env) = eval o X.env := by rfl) (hline : (apos.endLine == cpos.line) = true := by rfl) : PE X (.Call (.Attribute o name apos) [] [] cpos) (tBM0 K T r to) := by
  subst hK; exact pe_bm0 pa slot hty hm ho hbase hline
end

/-- a def of the module that may let an exception out -/
structure CalX (P : Program) (w : World) (K : PySem.W.Frag) (mg : Str → Option Value) (base : Heap) (k : Nat) (x : Str) (sp : Sp) : Prop where
  ex : ∃ (f : Addr) (fd : FuncData) (ps : List Str), FnOk P w K mg base (L2.CX P w) k f fd ps sp ∧ mg x = some (.ref f) ∧ PySem.W.keepIn K (.ref f) = true ∧ Binds K fd ps []
section
variable {X : Cx} {k j : Nat} {x : Str} {sp : Sp} {p pos : Pos} {e : Expr} {es : List Expr} {t : TA} {E : L2.St → XK}
theorem pe_cX (c : CalX X.prog X.w X.K X.mg X.base k x sp) (hr : Room j X.A) (hk : k ≤ j) (hg : Gl X x) (hx : ∀ σ, PassesAt (L2.CX X.prog X.w) X σ (E σ)) (ha : PA X (e :: es) t)
    (hdb : (x == ("__debug__" : Str)) = false := by decide) (he : starEach (e :: es) X.env = (false, eval e X.env) :: starEach es X.env := by rfl) (hpl : (backTo pos (starEach es X.env)).any (·.1) = false := by rfl) :
    PE X (.Call (.Name x p) (e :: es) [] pos) (tCallS sp E t) := by
  obtain ⟨f, fd, ps, F, hm, kp, b⟩ := c.ex
  exact pe_callS F (hr.mono hk) hg hm kp b hx ha hdb he hpl
end
section
variable {P : Program} {w : World} {K : PySem.W.Frag} {mg : Str → Option Value} {base : Heap}
/-- a def by its body, which may let an exception out -/
theorem calX {x : Str} {st : Stmt} {f : Addr} {fd : FuncData} {N ps : List Str} {k : Nat} {sp : Sp} (F : C8.Def K mg x st f fd) (b : Binds K fd ps []) (S : FnScope N ps (C8.fnScope st)) (len : ∀ vs H Q E, sp vs H Q E → vs.length = ps.length)
    (hbody : ∀ (cdv : Value) (A : Around) (outer : List Env) (s : Shared) (H : Hp) (vs : List V) (Q : VK) (E : XK), Room k (A.deeper (envOfC x (C8.fnScope st) s.heap.objs.size f cdv)) → sp vs H Q E →
      ∃ t, PSs (cxOf (L2.CX P w) P w K mg base N x (C8.fnScope st) f cdv A outer s H E) (C8.fnBody st) t ∧ t { nx := fun _ H' => Q .non H', rt := Q } (L2.start N vs) H) : CalX P w K mg base (k + 1) x sp := by
  refine ⟨f, fd, ps, ?_, F.mgf, F.kp, b⟩
  obtain ⟨oc, od, dV, kV, doc, pm, an, cdv, ct, osl, rfl, lk, hcd⟩ := F.fn.ex
  exact fn_of lk hcd S len fun A outer s H vs Q E hr hsp => hbody cdv A outer s H vs Q E hr hsp
end

/-! ### list.count of flat items -/
section
variable {X : Cx}
theorem count_eqU {x : V} : ∀ {xs : List V} {us : List Value}, Vals xs us → xs.all flatV = true → us.countP (eqU x) = xs.countP fun y => eqV y x
  | _, _, .nil, _ => rfl
  | y :: xs, u :: us, .cons r t, f => by
    rw [List.all_cons, Bool.and_eq_true] at f
    rw [List.countP_cons, List.countP_cons, eqU_of r f.1, count_eqU t f.2]
def rCntV (K : PySem.W.Frag) : V → List V → Hp → VK → Prop := fun x xs H Q => ∃ (p : Addr) (ys : List V) (y : V), x = .ref p ∧ xs = [y] ∧ SqL K H p ys ∧ flatV y = true ∧ ys.all flatV = true ∧ Q (.int ((ys.countP fun z => eqV z y : Nat) : Int)) H
theorem mt_lcountV : MtR X "list.count" (rCntV X.K) := by
  intro pins s σ H x xs v us Q I rx rxs h
  obtain ⟨p, ys, y, rfl, rfl, hs, fy, fys, q⟩ := h
  cases rx
  obtain ⟨u, rfl, ru⟩ := rxs.one
  obtain ⟨its, rv, ⟨⟨cls, dd, data, sl⟩, n, ho, hc, hdn, hd⟩, hlen⟩ := I.list hs
  simp only at hc hd
  subst hc hd
  refine call_meets PySem.F.slot_list_count ⟨_, ho, rfl⟩ PySem.F.entry_list_count (PySem.F.args_list_count_2 _ _)
    (SeqAt.list_countAt p its.toArray n dd sl u (eqU y)) ⟨ho, fun u' hu' => mem_eqAt ru fy rv fys u' (by simpa using hu'), ?_⟩
  have ec : its.toArray.toList.countP (eqU y) = ys.countP fun z => eqV z y := count_eqU rv fys
  refine ⟨.int (ys.countP fun z => eqV z y : Nat), H, I.tok _, ⟨s.toks, ?_⟩, q⟩
  show Value.int ((its.toArray.toList.countP (eqU y) : Nat) : Int) s.toks = Value.int ((ys.countP fun z => eqV z y : Nat) : Int) s.toks
  rw [ec]
end

/-! ### isinstance of a caught error, its class told by the reading -/
def rIsE2 (K : PySem.W.Frag) (cls : Value) (d : Option Addr) (a : Addr) : List V → Hp → VK → Prop := fun xs H Q => ∃ (D : Addr) (c : V) (cv : Value) (b : Bool), cls = .ref D ∧ d = none ∧ ExcC K D ∧ xs = [.ref a, c] ∧ (∀ u, RelV c u → u = cv) ∧ PySem.W.kitOne K (.ref D) cv = some b ∧ Q (.bl b) H
theorem call_isE2 {X : Cx} {a : Addr} {cls : Value} {d : Option Addr} {oe : Obj} {pn : List (Addr × Obj)} (hz : Zc cls d oe) (hf : ∃ vs, oe.data = .fields vs) : CallR (X.suite a ((a, oe) :: pn)) (.builtin "isinstance") (rIsE2 X.K cls d a) := by
  intro pins s σ H xs us Q I r h
  obtain ⟨D, c, cv, b, rfl, rfl, C, e, hcv, hk, q⟩ := h
  exact call_isE C hz hf pins s σ H xs us Q I r ⟨c, cv, b, e, hcv, hk, q⟩

/-- where an exception is, the slots are as many as the names -/
theorem takes_len {X : Cx} {W : WX} (t : Takes X W) : Takes X (fun c d σ H => σ.length = X.N.length → W c d σ H) := fun u s' x => by
  obtain ⟨a, B, sI, pins, σ, H, cls, d, e, I, x1, x2, x3, x4, x5, x6, q⟩ := x
  exact t u s' ⟨a, B, sI, pins, σ, H, cls, d, e, I, x1, x2, x3, x4, x5, x6, q I.len⟩

/-! ### built-ins by name -/
def rLen (K : PySem.W.Frag) : List V → Hp → VK → Prop := fun xs H Q => ∃ p ys, xs = [.ref p] ∧ (SqL K H p ys ∨ SqT K H p ys) ∧ Q (.int ys.length) H
theorem call_len1 {X : Cx} : CallR X (.builtin "len") (rLen X.K) := call_len_seq
def rListOf (K : PySem.W.Frag) : List V → Hp → VK → Prop := fun xs H Q => ∃ p ys, xs = [.ref p] ∧ (SqL K H p ys ∨ SqT K H p ys) ∧ ∀ l, H l = none → Q (.ref l) (upd H l (.lst ys))
theorem call_list1 {X : Cx} : CallR X (.type "list") (rListOf X.K) := call_list_of
def rMax2 : List V → Hp → VK → Prop := fun xs H Q => ∃ i j, xs = [.int i, .int j] ∧ Q (.int (if j > i then j else i)) H
theorem call_max1 {X : Cx} (hc : X.calm = true) : CallR X (.builtin "max") rMax2 := call_max2 hc
def rMin2 : List V → Hp → VK → Prop := fun xs H Q => ∃ i j, xs = [.int i, .int j] ∧ Q (.int (if j < i then j else i)) H
theorem call_min1 {X : Cx} (hc : X.calm = true) : CallR X (.builtin "min") rMin2 := call_min2 hc
def rInt1 : List V → Hp → VK → Prop := fun xs H Q => (∃ i, xs = [.int i] ∧ Q (.int i) H) ∨ ∃ k, xs = [.bl k] ∧ Q (.int (if k then 1 else 0)) H
theorem call_intB {X : Cx} : CallR X (.type "int") rInt1 := call_int1

def rIsN : R2 := fun x y H Q => y = .non ∧ Q (.bl (decide (x = .non))) H
theorem op_isN1 {X : Cx} : OpR X (compareOp .Is) rIsN := op_isN
def rNotN : R2 := fun x y H Q => y = .non ∧ Q (.bl (!decide (x = .non))) H
theorem op_notN1 {X : Cx} : OpR X (compareOp .IsNot) rNotN := op_notN

/-! ### steps -/
section
variable {σ : L2.St} {H : Hp} {Q : VK} {QB : Bool → Hp → Prop} {QA : List V → Hp → Prop} {i : Nat} {v x y : V} {ta tb tc te : TE} {t u : TT} {ts us : TS} {D : Ends} {n m : Int} {K : PySem.W.Frag} {r r' r2 : R2}
theorem g_var (h : σ[i]? = some (some v)) (q : Q v H) : tVar i σ H Q := ⟨v, h, q⟩
theorem g_c (q : Q v H) : tC v σ H Q := q
theorem g_op (h : ta σ H fun x H1 => tb σ H1 fun y H2 => r x y H2 Q) : tOp r ta tb σ H Q := h
theorem g_un {r : V → Hp → VK → Prop} (h : ta σ H fun x H1 => r x H1 Q) : tUn r ta σ H Q := h
theorem g_I0 {g : Int → Int → V} (q : Q (g n m) H) : rI0 g (.int n) (.int m) H Q := ⟨n, m, rfl, rfl, q⟩
theorem g_I {C : Int → Int → Prop} {g : Int → Int → V} (c : C n m) (q : Q (g n m) H) : rI C g (.int n) (.int m) H Q := ⟨n, m, rfl, rfl, c, q⟩
theorem g_U {g : Int → V} (q : Q (g n) H) : rU g (.int n) H Q := ⟨n, rfl, q⟩
theorem g_eqI (q : Q (.bl (decide (n = m))) H) : rEq (.int n) (.int m) H Q := ⟨rfl, by
  have e : decide (V.int n = V.int m) = decide (n = m) := by by_cases h : n = m <;> simp [h]
  rw [e]; exact q⟩
theorem g_neI (q : Q (.bl (!decide (n = m))) H) : rNe (.int n) (.int m) H Q := ⟨rfl, by
  have e : decide (V.int n = V.int m) = decide (n = m) := by by_cases h : n = m <;> simp [h]
  rw [e]; exact q⟩
theorem g_eqS {a b : Str} (q : Q (.bl (decide (a = b))) H) : rEq (.str a) (.str b) H Q := ⟨rfl, by
  have e : decide (V.str a = V.str b) = decide (a = b) := by by_cases h : a = b <;> simp [h]
  rw [e]; exact q⟩
theorem g_neS {a b : Str} (q : Q (.bl (!decide (a = b))) H) : rNe (.str a) (.str b) H Q := ⟨rfl, by
  have e : decide (V.str a = V.str b) = decide (a = b) := by by_cases h : a = b <;> simp [h]
  rw [e]; exact q⟩
theorem g_eqB {a b : Bool} (q : Q (.bl (a == b)) H) : rEq (.bl a) (.bl b) H Q := ⟨rfl, by
  have e : decide (V.bl a = V.bl b) = (a == b) := by cases a <;> cases b <;> rfl
  rw [e]; exact q⟩
theorem g_neB {a b : Bool} (q : Q (.bl (a != b)) H) : rNe (.bl a) (.bl b) H Q := ⟨rfl, by
  have e : (!decide (V.bl a = V.bl b)) = (a != b) := by cases a <;> cases b <;> rfl
  rw [e]; exact q⟩
theorem g_isN (q : Q (.bl (decide (x = .non))) H) : rIsN x .non H Q := ⟨rfl, q⟩
theorem g_notN (q : Q (.bl (!decide (x = .non))) H) : rNotN x .non H Q := ⟨rfl, q⟩
theorem g_test (h : te σ H fun x H' => ∃ k, x = .bl k ∧ QB k H') : tTest te σ H QB := h
theorem g_tB (h : te σ H fun x H' => ∃ k, x = .bl k ∧ QB k H') : tB te σ H QB := h
theorem g_bl {b : Bool} (q : QB b H) : ∃ k, V.bl b = .bl k ∧ QB k H := ⟨b, rfl, q⟩
theorem g_and (h : t σ H fun c H1 => if c = true then u σ H1 QB else QB false H1) : tAnd t u σ H QB := h
theorem g_or (h : t σ H fun c H1 => if c = true then QB true H1 else u σ H1 QB) : tOr t u σ H QB := h
theorem g_not (h : t σ H fun c H1 => QB (!c) H1) : tNot t σ H QB := h
theorem g_andV (h : ta σ H fun x H1 => ∃ c, x = .bl c ∧ if c = true then tb σ H1 Q else Q (.bl false) H1) : tAndV ta tb σ H Q := h
theorem g_orV (h : ta σ H fun x H1 => ∃ c, x = .bl c ∧ if c = true then Q (.bl true) H1 else tb σ H1 Q) : tOrV ta tb σ H Q := h
theorem g_notV (h : ta σ H fun x H1 => ∃ c, x = .bl c ∧ Q (.bl (!c)) H1) : tNotV ta σ H Q := h
theorem g_blI {b : Bool} {p : Bool → Prop} (q : p b) : ∃ k, V.bl b = .bl k ∧ p k := ⟨b, rfl, q⟩
theorem g_if (h : t σ H fun c H1 => if c = true then ta σ H1 Q else tb σ H1 Q) : tIf t ta tb σ H Q := h
theorem g_chain (h : ta σ H fun x H1 => tb σ H1 fun y H2 => r x y H2 fun z H3 => ∃ k, z = .bl k ∧ (if k = true then tc σ H3 fun w' H4 => r' y w' H4 Q else Q (.bl false) H3)) : tChain r r' ta tb tc σ H Q := h
theorem g_chain3 {td : TE} (h : ta σ H fun x H1 => tb σ H1 fun y H2 => r x y H2 fun z H3 => ∃ k, z = .bl k ∧
  (if k = true then tc σ H3 fun w' H4 => r' y w' H4 fun z2 H5 => ∃ k2, z2 = .bl k2 ∧ (if k2 = true then td σ H5 fun w2 H6 => r2 w' w2 H6 Q else Q (.bl false) H5) else Q (.bl false) H3)) : tChain3 r r' r2 ta tb tc td σ H Q := h
theorem g_nil (q : QA [] H) : tNil σ H QA := q
theorem g_cons {tr : TA} (h : ta σ H fun x H1 => tr σ H1 fun xs H2 => QA (x :: xs) H2) : tCons ta tr σ H QA := h
theorem g_tup {tr : TA} (h : tr σ H fun xs H1 => xs.length ≤ sizeLine ∧ ∀ p, H1 p = none → Q (.ref p) (upd H1 p (.tup xs))) : tTup tr σ H Q := h
theorem g_lst {tr : TA} (h : tr σ H fun xs H1 => xs.length ≤ sizeLine ∧ ∀ p, H1 p = none → Q (.ref p) (upd H1 p (.lst xs))) : tLst tr σ H Q := h
theorem g_CB {r : List V → Hp → VK → Prop} {tr : TA} (h : tr σ H fun vs H1 => r vs H1 Q) : tCB r tr σ H Q := h
theorem g_call {sp : Sp} {dvs : List V} {E : XK} {tr : TA} (h : tr σ H fun vs H1 => sp (vs ++ dvs) H1 Q E) : tCall sp dvs E tr σ H Q := h
theorem g_callS {sp : Sp} {E : L2.St → XK} {tr : TA} (h : tr σ H fun vs H1 => sp vs H1 Q (E σ)) : tCallS sp E tr σ H Q := h
theorem g_bm {T : String} {r : V → List V → Hp → VK → Prop} {tr : TA} (h : ta σ H fun x H1 => tyV K T x H1 ∧ tr σ H1 fun xs H2 => r x xs H2 Q) : tBM K T r ta tr σ H Q := h
theorem g_bm0 {T : String} {r : V → List V → Hp → VK → Prop} (h : ta σ H fun x H1 => tyV K T x H1 ∧ r x [] H1 Q) : tBM0 K T r ta σ H Q := h
theorem g_sl {r : V → Option Int → Option Int → Hp → VK → Prop} {tl th : TO} (h : te σ H fun x H1 => tl σ H1 fun l H2 => th σ H2 fun u H3 => r x l u H3 Q) : tSl r te tl th σ H Q := h
theorem g_part {QO : Option Int → Hp → Prop} (h : te σ H fun x H1 => ∃ i, x = .int i ∧ QO (some i) H1) : tPart te σ H QO := h
theorem g_part1 {p : Int → Prop} (h : p n) : ∃ i, V.int n = .int i ∧ p i := ⟨n, rfl, h⟩
theorem g_noPart {QO : Option Int → Hp → Prop} (h : QO none H) : tNoPart σ H QO := h
-- statements
theorem g_seq {a : L2.St → Hp → Prop} {b : VK} {c d : L2.St → Hp → Prop} (h : ts ⟨us ⟨a, b, c, d⟩, b, c, d⟩ σ H) : tSeq ts us ⟨a, b, c, d⟩ σ H := h
theorem g_fit {xs : List V} {R : Addr → Prop} (hl : Nat.ble xs.length 1000 = true) (q : ∀ p, H p = none → R p) : xs.length ≤ sizeLine ∧ ∀ p, H p = none → R p := ⟨Nat.le_trans (Nat.le_of_ble_eq_true hl) (by decide), q⟩
theorem g_next (h : D.nx σ H) : tNext D σ H := h
theorem g_asg {g : TG} (h : te σ H fun x H1 => g x σ H1 D.nx) : tAsg te g D σ H := h
theorem g_name {Qg : L2.St → Hp → Prop} (h : Qg (σ.set i (some v)) H) : gName i v σ H Qg := h
theorem g_sub {to ti : TE} {t : TSet} {Qg : L2.St → Hp → Prop} (h : to σ H fun o H1 => ti σ H1 fun i H2 => t o i v H2 fun H3 => Qg σ H3) : gSub to ti t v σ H Qg := h
theorem g_gnil {Qg : L2.St → Hp → Prop} (h : Qg σ H) : gNil [] σ H Qg := ⟨rfl, h⟩
theorem g_gcons {tg : TG} {ug : TGs} {vs : List V} {Qg : L2.St → Hp → Prop} (h : tg v σ H fun σ' H' => ug vs σ' H' Qg) : gCons tg ug (v :: vs) σ H Qg := ⟨v, vs, rfl, h⟩
theorem g_drop (h : te σ H fun _ H1 => D.nx σ H1) : tDrop te D σ H := h
theorem g_ret (h : te σ H D.rt) : tRet te D σ H := h
theorem g_retN (h : D.rt .non H) : tRetN D σ H := h
theorem g_brk (h : D.bk σ H) : tBreak D σ H := h
theorem g_cont (h : D.ct σ H) : tCont D σ H := h
theorem g_ifS (h : t σ H fun b H1 => if b = true then ts D σ H1 else us D σ H1) : tIfS t ts us D σ H := h
theorem g_nx {a : L2.St → Hp → Prop} {b : VK} {c d : L2.St → Hp → Prop} (h : a σ H) : Ends.nx ⟨a, b, c, d⟩ σ H := h
theorem g_bk {a : L2.St → Hp → Prop} {b : VK} {c d : L2.St → Hp → Prop} (h : c σ H) : Ends.bk ⟨a, b, c, d⟩ σ H := h
theorem g_ct {a : L2.St → Hp → Prop} {b : VK} {c d : L2.St → Hp → Prop} (h : d σ H) : Ends.ct ⟨a, b, c, d⟩ σ H := h
theorem g_rt {a : L2.St → Hp → Prop} {b : VK} {c d : L2.St → Hp → Prop} (h : b v H) : Ends.rt ⟨a, b, c, d⟩ v H := h
theorem g_rng1 {tr : TA} {R : It → Hp → Prop} (h : tr σ H fun vs H1 => ∃ j : Int, vs = [.int j] ∧ -(2 ^ 62) ≤ j ∧ j < 2 ^ 62 ∧ R (Itr 0 j.toNat) H1) : iRng1 tr σ H R := h
theorem g_rng2 {tr : TA} {R : It → Hp → Prop} (h : tr σ H fun vs H1 => ∃ i j : Int, vs = [.int i, .int j] ∧ (-(2 ^ 62) ≤ i ∧ i < 2 ^ 62 ∧ -(2 ^ 62) ≤ j ∧ j < 2 ^ 62) ∧ R (Itr i (j - i).toNat) H1) : iRng2 tr σ H R := h
theorem g_iList {R : It → Hp → Prop} (h : te σ H fun x H1 => ∃ a, x = .ref a ∧ (∃ xs, SqL K H1 a xs) ∧ R (Itl K a) H1) : iList K te σ H R := h
theorem g_iTup {R : It → Hp → Prop} (h : te σ H fun x H1 => ∃ a, x = .ref a ∧ (∃ xs, SqT K H1 a xs) ∧ R (Itt K a) H1) : iTup K te σ H R := h
def ForEnd (g : TG) (tb : TS) (a : L2.St → Hp → Prop) (b : VK) (σ : L2.St) (J : It) (H1 : Hp) : Prop := ∃ W : Nat → Nat → L2.St → Hp → Prop, (∃ m, W 0 m σ H1) ∧ ∀ i m σ H, W i m σ H →
  (J.stop i H ∧ a σ H) ∨ (J.go i H ∧ ∃ N : L2.St → Hp → Prop, (∀ σ' H', N σ' H' → ∃ m', m' < m ∧ W (i + 1) m' σ' H') ∧ ∀ x H', J.yld i H x H' → g x σ H' fun σ2 H2 => tb ⟨N, b, a, N⟩ σ2 H2)
theorem g_for {a : L2.St → Hp → Prop} {b : VK} {c d : L2.St → Hp → Prop} {wi : TI} {g : TG} {tb : TS} (h : wi σ H (ForEnd g tb a b σ)) : tFor wi g tb ⟨a, b, c, d⟩ σ H := h
theorem w_list {a : L2.St → Hp → Prop} {b : VK} {g : TG} {tb : TS} {p : Addr} {xs : List V} (Pv : Nat → L2.St → Hp → Prop) (h0 : Pv 0 σ H) (hl : ∀ i σ H, i ≤ xs.length → Pv i σ H → SqL K H p xs)
    (hs : ∀ i x σ H, xs[i]? = some x → Pv i σ H → g x σ H fun σ2 H2 => tb ⟨Pv (i + 1), b, a, Pv (i + 1)⟩ σ2 H2) (hd : ∀ σ H, Pv xs.length σ H → a σ H) : ∃ q, V.ref p = .ref q ∧ (∃ xs, SqL K H q xs) ∧ ForEnd g tb a b σ (Itl K q) H :=
  ⟨p, rfl, ⟨xs, hl 0 σ H (Nat.zero_le _) h0⟩, for_list (D := ⟨a, b, fun _ _ => False, fun _ _ => False⟩) Pv h0 hl hs hd⟩
theorem w_tup {a : L2.St → Hp → Prop} {b : VK} {g : TG} {tb : TS} {p : Addr} {xs : List V} (Pv : Nat → L2.St → Hp → Prop) (h0 : Pv 0 σ H) (hl : ∀ i σ H, i ≤ xs.length → Pv i σ H → SqT K H p xs)
    (hs : ∀ i x σ H, xs[i]? = some x → Pv i σ H → g x σ H fun σ2 H2 => tb ⟨Pv (i + 1), b, a, Pv (i + 1)⟩ σ2 H2) (hd : ∀ σ H, Pv xs.length σ H → a σ H) : ∃ q, V.ref p = .ref q ∧ (∃ xs, SqT K H q xs) ∧ ForEnd g tb a b σ (Itt K q) H :=
  ⟨p, rfl, ⟨xs, hl 0 σ H (Nat.zero_le _) h0⟩, for_tup (D := ⟨a, b, fun _ _ => False, fun _ _ => False⟩) Pv h0 hl hs hd⟩
/-- range(n) -/
theorem w_range {a : L2.St → Hp → Prop} {b : VK} {g : TG} {tb : TS} {n : Int} (h1 : -(2 ^ 62) ≤ n) (h2 : n < 2 ^ 62) (Pv : Nat → L2.St → Hp → Prop) (h0 : Pv 0 σ H)
    (hs : ∀ i σ H, i < n.toNat → Pv i σ H → g (.int i) σ H fun σ2 H2 => tb ⟨Pv (i + 1), b, a, Pv (i + 1)⟩ σ2 H2) (hd : ∀ σ H, Pv n.toNat σ H → a σ H) :
    ∃ j : Int, [V.int n] = [.int j] ∧ -(2 ^ 62) ≤ j ∧ j < 2 ^ 62 ∧ ForEnd g tb a b σ (Itr 0 j.toNat) H :=
  ⟨n, rfl, h1, h2, for_range (D := ⟨a, b, fun _ _ => False, fun _ _ => False⟩) Pv h0 (fun i σ H hi p => by have q := hs i σ H hi p; rw [Int.zero_add]; exact q) hd⟩
theorem w_while {a : L2.St → Hp → Prop} {b : VK} {c d : L2.St → Hp → Prop} {tc : TT} {tb : TS} (Pv : L2.St → Hp → Prop) (μ : L2.St → Hp → Nat) (h0 : Pv σ H)
    (hs : ∀ σ H, Pv σ H → tc σ H fun b' H1 => if b' = true then tb ⟨fun σ' H' => Pv σ' H' ∧ μ σ' H' < μ σ H, b, a, fun σ' H' => Pv σ' H' ∧ μ σ' H' < μ σ H⟩ σ H1 else a σ H1)
    (mono : ∀ σ H Q Q', (∀ b H1, Q b H1 → Q' b H1) → tc σ H Q → tc σ H Q') : tWhile tc tb ⟨a, b, c, d⟩ σ H := while_by Pv μ h0 hs mono
theorem g_itT {b : Bool} {A B : Prop} (h : b = true) (q : A) : if b = true then A else B := by rw [h]; exact iteT q
theorem g_itF {b : Bool} {A B : Prop} (h : b = false) (q : B) : if b = true then A else B := by rw [h]; exact iteF q
theorem g_ite {c : Prop} [Decidable c] {A B : Prop} (h1 : c → A) (h2 : ¬ c → B) : if decide c = true then A else B := by
  by_cases h : c
  · rw [decide_eq_true h]; exact iteT (h1 h)
  · rw [decide_eq_false h]; exact iteF (h2 h)
theorem g_iteN {c : Prop} [Decidable c] {A B : Prop} (h1 : ¬ c → A) (h2 : c → B) : if (!decide c) = true then A else B := by
  by_cases h : c
  · rw [decide_eq_true h]; exact iteF (h2 h)
  · rw [decide_eq_false h]; exact iteT (h1 h)
theorem g_len {p : Addr} {xs : List V} (h : SqL K H p xs ∨ SqT K H p xs) (q : Q (.int xs.length) H) : rLen K [.ref p] H Q := ⟨p, xs, rfl, h, q⟩
theorem g_ixL {p : Addr} {xs : List V} (h : SqL K H p xs) (ha : atI xs n = some v) (q : Q v H) : rIxL K (.ref p) (.int n) H Q := ⟨p, xs, n, v, rfl, rfl, h, ha, q⟩
theorem g_ixT {p : Addr} {xs : List V} (h : SqT K H p xs) (ha : atI xs n = some v) (q : Q v H) : rIxT K (.ref p) (.int n) H Q := ⟨p, xs, n, v, rfl, rfl, h, ha, q⟩
theorem g_setL {p : Addr} {xs : List V} {j : Nat} {q : Hp → Prop} (h : H p = some (.lst xs)) (hj : ixN xs.length n = some j) (k : q (upd H p (.lst (xs.set j v)))) : rSetL (.ref p) (.int n) v H q := ⟨p, xs, n, j, rfl, rfl, h, hj, k⟩
theorem mulW_small {i j : Int} (h1 : 0 ≤ i) (h2 : i < 2147483648) (h3 : 0 ≤ j) (h4 : j < 2147483648) : CMulW i j := wide_mul (a := 31) (b := 31) (by show _ < 2147483648; omega) (by show _ < 2147483648; omega) (by decide) (by decide) (by decide)
theorem divW_small {i j : Int} (h1 : 0 < j) (h2 : j < 10 ^ 38) : CDivW i j := wide_div (b := 127) h1 (by show _ < (2 : Nat) ^ 127; omega) (by decide) (by decide)
theorem g_append {p : Addr} {xs : List V} (h : H p = some (.lst xs)) (hl : xs.length < 100000) (q : Q .non (upd H p (.lst (xs ++ [v])))) : rAppend (.ref p) [v] H Q := ⟨p, xs, v, rfl, rfl, h, Nat.lt_of_lt_of_le hl (by decide), q⟩
theorem g_tyL {p : Addr} {xs : List V} {R : Prop} (h : H p = some (.lst xs)) (q : R) : tyV K "list" (.ref p) H ∧ R := ⟨.inl ⟨rfl, _, SqL.of h⟩, q⟩
theorem g_listOf {p : Addr} {xs : List V} (h : SqL K H p xs) (q : ∀ l, H l = none → Q (.ref l) (upd H l (.lst xs))) : rListOf K [.ref p] H Q := ⟨p, xs, rfl, .inl h, q⟩
theorem g_listOfT {p : Addr} {xs : List V} (h : SqT K H p xs) (q : ∀ l, H l = none → Q (.ref l) (upd H l (.lst xs))) : rListOf K [.ref p] H Q := ⟨p, xs, rfl, .inr h, q⟩
theorem g_int1B {b : Bool} (q : Q (.int (if b then 1 else 0)) H) : rInt1 [.bl b] H Q := .inr ⟨b, rfl, q⟩
theorem g_gtup {p : Addr} {xs : List V} {k : Nat} {tg : TGs} {Qg : L2.St → Hp → Prop} (h : SqT K H p xs) (hl : xs.length = k) (q : tg xs σ H Qg) : gTup K k tg (.ref p) σ H Qg := ⟨p, xs, rfl, h, hl, q⟩
theorem g_isi {c : V} {tv uv : Value} {b : Bool} (h1 : ClsV c uv) (h2 : TyX K H x tv) (h3 : PySem.W.kitOne K tv uv = some b) (q : Q (.bl b) H) : rIsi K [x, c] H Q := ⟨x, c, tv, uv, b, rfl, h1, h2, h3, q⟩
theorem g_max2 (q : Q (.int (if m > n then m else n)) H) : rMax2 [.int n, .int m] H Q := ⟨n, m, rfl, q⟩
theorem g_min2 (q : Q (.int (if m < n then m else n)) H) : rMin2 [.int n, .int m] H Q := ⟨n, m, rfl, q⟩
end

/-! ### heaps in which the list at S changes -/
def Frm (S : Addr) (H H' : Hp) : Prop := ∀ b o, b ≠ S → H b = some o → H' b = some o
theorem Frm.refl (S : Addr) (H : Hp) : Frm S H H := fun _ _ _ h => h
theorem Frm.trans {S : Addr} {H H1 H2 : Hp} (a : Frm S H H1) (b : Frm S H1 H2) : Frm S H H2 := fun c o n h => b c o n (a c o n h)
theorem Frm.of {S : Addr} {H H' : Hp} (e : Same H H') : Frm S H H' := fun b o _ h => e b o h
theorem Frm.set {S : Addr} {H : Hp} {o : HO} : Frm S H (upd H S o) := fun b u n h => by rw [upd_ne n]; exact h
theorem same_new {H : Hp} {p : Addr} {o : HO} (h : H p = none) : Same H (upd H p o) := fun b u e => by rw [upd_ne (ne_of_none e h)]; exact e
/-- what may be read at a, whatever becomes of S -/
def ScL (K : PySem.W.Frag) (S : Addr) (H : Hp) (a : Addr) (xs : List V) : Prop := (a ≠ S ∧ Rd H a (.lst xs)) ∨ ∀ H', SqL K H' a xs
theorem ScL.sq {K : PySem.W.Frag} {S : Addr} {H : Hp} {a : Addr} {xs : List V} (h : ScL K S H a xs) : SqL K H a xs := by
  rcases h with ⟨_, h⟩ | h
  · exact .inl h
  · exact h H
theorem ScL.frm {K : PySem.W.Frag} {S : Addr} {H H' : Hp} {a : Addr} {xs : List V} (h : ScL K S H a xs) (f : Frm S H H') : ScL K S H' a xs := by
  rcases h with ⟨n, h⟩ | h
  · refine .inl ⟨n, ?_⟩
    rcases h with h | ⟨o, h⟩
    · exact .inl (f _ _ n h)
    · exact .inr ⟨o, f _ _ n h⟩
  · exact .inr h
theorem ScL.of {K : PySem.W.Frag} {S : Addr} {H H' : Hp} {a : Addr} {xs : List V} (h : SqL K H a xs) (e : Same H H') (n : H S = none) : ScL K S H' a xs := by
  rcases h with h | h
  · rcases h with h | ⟨o, h⟩
    · exact .inl ⟨ne_of_none h n, .inl (e _ _ h)⟩
    · exact .inl ⟨ne_of_none h n, .inr ⟨o, e _ _ h⟩⟩
  · exact .inr fun H' => .inr h
/-- the drawing's state at S; what B tracks stands as it stood -/
def Dst (K : PySem.W.Frag) (B H : Hp) (S : Addr) : Prop := ∃ (sc : Addr) (ns : List Int) (c m r : Int), H S = some (.lst [.ref sc, .int c, .int m, .int r]) ∧ ScL K S B sc (ns.map V.int) ∧ Frm S B H ∧ ns.length ≤ 63 ∧ 0 ≤ c ∧ 0 ≤ m ∧ m < 2147483647
theorem Dst.same {K : PySem.W.Frag} {B H H' : Hp} {S : Addr} (d : Dst K B H S) (e : Same H H') : Dst K B H' S := by
  obtain ⟨sc, ns, c, m, r, h1, h2, h3, h4⟩ := d
  exact ⟨sc, ns, c, m, r, e _ _ h1, h2, h3.trans (.of e), h4⟩
theorem Dst.has {K : PySem.W.Frag} {B H : Hp} {S : Addr} (d : Dst K B H S) : H S ≠ none := by
  obtain ⟨sc, ns, c, m, r, h1, _⟩ := d
  rw [h1]; exact fun z => nomatch z
theorem Dst.ne {K : PySem.W.Frag} {B H : Hp} {S p : Addr} (d : Dst K B H S) (h : H p = none) : p ≠ S := fun e => d.has (e ▸ h)
theorem Dst.fresh {K : PySem.W.Frag} {B H : Hp} {S p : Addr} (d : Dst K B H S) (h : H p = none) : B p = none := by
  have n := d.ne h
  obtain ⟨sc, ns, c, m, r, h1, h2, h3, h4⟩ := d
  cases e : B p with
  | none => rfl
  | some o => rw [h3 p o n e] at h; cases h
/-- a thing that B does not know changes -/
theorem Dst.mut {K : PySem.W.Frag} {B H : Hp} {S p : Addr} {o : HO} (d : Dst K B H S) (n : p ≠ S) (h : B p = none) : Dst K B (upd H p o) S := by
  obtain ⟨sc, ns, c, m, r, h1, h2, h3, h4⟩ := d
  refine ⟨sc, ns, c, m, r, ?_, h2, fun b u hb e => ?_, h4⟩
  · rw [upd_ne n.symm]; exact h1
  · rw [upd_ne (ne_of_none e h)]; exact h3 b u hb e
theorem Frm.mut {S p : Addr} {H H' : Hp} {o : HO} (f : Frm S H H') (h : H p = none) : Frm S H (upd H' p o) := fun b u n e => by
  rw [upd_ne (ne_of_none e h)]; exact f b u n e
theorem Frm.new {S p : Addr} {H : Hp} {o : HO} (h : H p = none) : Frm S H (upd H p o) := .of (same_new h)
theorem Frm.back {S p : Addr} {H H' : Hp} (f : Frm S H H') (n : p ≠ S) (h : H' p = none) : H p = none := by
  cases e : H p with
  | none => rfl
  | some o => rw [f p o n e] at h; cases h
theorem Same.back {H H' : Hp} {p : Addr} (f : Same H H') (h : H' p = none) : H p = none := by
  cases e : H p with
  | none => rfl
  | some o => rw [f p o e] at h; cases h
theorem Same.mut {H H' : Hp} {p : Addr} {o : HO} (f : Same H H') (h : H p = none) : Same H (upd H' p o) := fun b u e => by
  rw [upd_ne (ne_of_none e h)]; exact f b u e
theorem pow_small {i j : Int} (h0 : 0 ≤ j) (h1 : j ≤ 1000) (h2 : i.natAbs < 2 ^ 32) : CPow i j := ⟨h0, by omega, Nat.lt_trans h2 (by decide)⟩
theorem atI_mem {xs : List V} {z : Int} (h0 : 0 ≤ z) (h1 : z < xs.length) : ∃ x, x ∈ xs ∧ atI xs z = some x := by
  have hl : z.toNat < xs.length := by omega
  exact ⟨xs[z.toNat], List.getElem_mem hl, at_of (j := z.toNat) (by omega) (List.getElem?_eq_getElem hl)⟩
theorem map_at {ns : List Int} {i : Nat} {x : V} (h : (ns.map V.int)[i]? = some x) : ∃ n, ns[i]? = some n ∧ x = V.int n := by
  rw [List.getElem?_map] at h
  cases hq : ns[i]? with
  | none => rw [hq] at h; cases h
  | some z => rw [hq] at h; exact ⟨z, rfl, (Option.some.inj h).symm⟩
/-- what stands beside S -/
def Live (S : Addr) (H : Hp) (L : List (Addr × HO)) : Prop := ∀ p ∈ L, p.1 ≠ S ∧ H p.1 = some p.2
theorem Live.nil {S : Addr} {H : Hp} : Live S H [] := fun _ h => (List.not_mem_nil h).elim
theorem Live.frm {S : Addr} {H H' : Hp} {L : List (Addr × HO)} (l : Live S H L) (f : Frm S H H') : Live S H' L := fun p h => ⟨(l p h).1, f _ _ (l p h).1 (l p h).2⟩
theorem Live.cons {S : Addr} {H : Hp} {L : List (Addr × HO)} {a : Addr} {o : HO} (l : Live S H L) (n : a ≠ S) (h : H a = some o) : Live S H ((a, o) :: L) := fun p hp => by
  rcases List.mem_cons.mp hp with e | e
  · subst e; exact ⟨n, h⟩
  · exact l p e
theorem Live.get {S : Addr} {H : Hp} {L : List (Addr × HO)} (l : Live S H L) (i : Nat) {a : Addr} {o : HO} (h : L[i]? = some (a, o)) : H a = some o := (l _ (List.mem_of_getElem? h)).2
theorem Live.ne {S : Addr} {H : Hp} {L : List (Addr × HO)} (l : Live S H L) (i : Nat) {a : Addr} {o : HO} (h : L[i]? = some (a, o)) : a ≠ S := (l _ (List.mem_of_getElem? h)).1
/-- a new object is laid -/
theorem Live.new {S : Addr} {H : Hp} {L : List (Addr × HO)} {p : Addr} {o : HO} (l : Live S H L) (hp : H p = none) (hS : H S ≠ none) : Live S (upd H p o) ((p, o) :: L) :=
  (l.frm (.of (same_new hp))).cons (fun e => hS (e ▸ hp)) upd_same

/-! ### == of data -/
section
variable {K : PySem.W.Frag} {H : Hp} {Q : VK}
theorem dpAll_ints : ∀ ns : List Int, DpAll K H (ns.map V.int) (ns.map PyData.int)
  | [] => .nil
  | n :: ns => .cons (.int n) (dpAll_ints ns)
theorem dp_ints {a : Addr} {ns : List Int} (h : SqL K H a (ns.map V.int)) : Dp K H (.ref a) (.list (ns.map PyData.int)) := .lst h (dpAll_ints ns)
theorem eqvAll_ints : ∀ ns ms : List Int, PyData.eqvAll (ns.map PyData.int) (ms.map PyData.int) = decide (ns = ms)
  | [], [] => by simp [PyData.eqvAll]
  | [], _ :: _ => by simp [PyData.eqvAll]
  | _ :: _, [] => by simp [PyData.eqvAll]
  | n :: ns, m :: ms => by
    have ih := eqvAll_ints ns ms
    simp only [List.map_cons, PyData.eqvAll, ih, PyData.eqv]
    by_cases h1 : n = m <;> by_cases h2 : ns = ms <;> simp [h1, h2]
theorem eqv_ints (ns ms : List Int) : PyData.eqv (.list (ns.map PyData.int)) (.list (ms.map PyData.int)) = decide (ns = ms) := by
  rw [PyData.eqv]; exact eqvAll_ints ns ms
theorem g_eqLI {a b : Addr} {ns ms : List Int} (h1 : SqL K H a (ns.map V.int)) (h2 : SqL K H b (ms.map V.int)) (q : Q (.bl (decide (ns = ms))) H) : rEqD K (.ref a) (.ref b) H Q :=
  ⟨_, _, dp_ints h1, dp_ints h2, PySem.W.ke_shaped_ints ns, PySem.W.ke_shaped_ints ms, by rw [eqv_ints]; exact q⟩
theorem g_neLI {a b : Addr} {ns ms : List Int} (h1 : SqL K H a (ns.map V.int)) (h2 : SqL K H b (ms.map V.int)) (q : Q (.bl (!decide (ns = ms))) H) : rNeD K (.ref a) (.ref b) H Q :=
  ⟨_, _, dp_ints h1, dp_ints h2, PySem.W.ke_shaped_ints ns, PySem.W.ke_shaped_ints ms, by rw [eqv_ints]; exact q⟩
end
section
variable {σ : L2.St} {H : Hp}
/-- a while, by an invariant that bears its measure -/
theorem w_loop {a : L2.St → Hp → Prop} {b : VK} {c d : L2.St → Hp → Prop} {tc : TT} {tb : TS} (Pv : Nat → L2.St → Hp → Prop) (m0 : Nat) (h0 : Pv m0 σ H)
    (hs : ∀ m σ H, Pv m σ H → tc σ H fun b' H1 => if b' = true then ∃ N : L2.St → Hp → Prop, (∀ σ' H', N σ' H' → ∃ m', m' < m ∧ Pv m' σ' H') ∧ tb ⟨N, b, a, N⟩ σ H1 else a σ H1) : tWhile tc tb ⟨a, b, c, d⟩ σ H := ⟨Pv, ⟨m0, h0⟩, hs⟩
end
section
variable {K : PySem.W.Frag} {H : Hp} {Q : VK}
theorem g_slL {a : Addr} {xs : List V} {lo hi : Option Int} (h : SqL K H a xs) (q : ∀ p, H p = none → Q (.ref p) (upd H p (.lst (cutV xs lo hi)))) : rSlL K (.ref a) lo hi H Q := ⟨a, xs, rfl, h, q⟩
theorem cut1 (xs : List V) : cutV xs (some 1) none = xs.drop 1 := by
  unfold cutV
  rw [show (some (1 : Int)) = some ((1 : Nat) : Int) from rfl, HT.sIx_nat, HT.sIx_none]
  cases xs with
  | nil => rfl
  | cons x xs =>
    have e : min 1 (x :: xs).length = 1 := by simp
    rw [e]
    show List.take ((x :: xs).length - 1) xs = xs
    simp
end
theorem tup_same {K : PySem.W.Frag} {H H' : Hp} {a : Addr} {xs : List V} (e : Same H H') (h : SqT K H a xs) : SqT K H' a xs := by
  rcases h with (h | ⟨o, h⟩) | h
  · exact .inl (.inl (e _ _ h))
  · exact .inl (.inr ⟨o, e _ _ h⟩)
  · exact .inr h

/-! ### data: kinds, and as they stand later -/
section
variable {K : PySem.W.Frag} {H H' : Hp} {Q : VK} {σ : L2.St}
theorem ty_list {a : Addr} {xs : List V} (h : SqL K H a xs) : TyX K H (.ref a) (.type "list") := by
  rcases h with (h | ⟨o, h⟩) | h
  · exact .base (.lst h)
  · exact .base (.frz h)
  · obtain ⟨o, items, n, h1, h2, _⟩ := h
    exact .kList h1 h2
theorem ty_tup {a : Addr} {xs : List V} (h : SqT K H a xs) : TyX K H (.ref a) (.type "tuple") := by
  rcases h with (h | ⟨o, h⟩) | h
  · exact .base (.tup h)
  · exact .fTuple h
  · obtain ⟨o, items, n, h1, h2, _⟩ := h
    exact .kTuple h1 h2
theorem list_same {a : Addr} {xs : List V} (e : Same H H') (h : SqL K H a xs) : SqL K H' a xs := e.seq h
mutual
theorem Dp_same (e : Same H H') : ∀ (d : PyData) (v : V), Dp K H v d → Dp K H' v d
  | .none, _, h => by cases h; exact .non
  | .bool b, _, h => by cases h; exact .bl b
  | .int i, _, h => by cases h; exact .int i
  | .str x, _, h => by cases h; exact .str x
  | .list ds, _, h => by
    cases h with
    | lst hs ha => exact .lst (list_same e hs) (DpAll_same e ds _ ha)
  | .tuple ds, _, h => by
    cases h with
    | tup hs ha => exact .tup (tup_same e hs) (DpAll_same e ds _ ha)
  | .dict _, _, h => by cases h
theorem DpAll_same (e : Same H H') : ∀ (ds : List PyData) (vs : List V), DpAll K H vs ds → DpAll K H' vs ds
  | [], _, h => by cases h; exact .nil
  | d :: ds, _, h => by
    cases h with
    | cons h1 h2 => exact .cons (Dp_same e d _ h1) (DpAll_same e ds _ h2)
end
theorem DpAll.len : ∀ {vs : List V} {ds : List PyData}, DpAll K H vs ds → vs.length = ds.length
  | [], [], _ => rfl
  | _ :: _, _ :: _, .cons _ h => by rw [List.length_cons, List.length_cons, DpAll.len h]
theorem DpAll.at : ∀ {vs : List V} {ds : List PyData} {i : Nat} {d : PyData}, DpAll K H vs ds → ds[i]? = some d → ∃ v, vs[i]? = some v ∧ Dp K H v d
  | _, _, 0, d, .cons h _, e => by cases e; exact ⟨_, rfl, h⟩
  | _, _, i + 1, d, .cons _ h, e => DpAll.at (i := i) h e
/-- small data of the four flat kinds, lists and tuples, at most so deep -/
inductive OkD : Nat → PyData → Prop
  | non {n : Nat} : OkD n .none
  | bl {n : Nat} (b : Bool) : OkD n (.bool b)
  | int {n : Nat} (i : Int) : OkD n (.int i)
  | str {n : Nat} (x : Str) : OkD n (.str x)
  | lst {n : Nat} {ds : List PyData} : ds.length ≤ 100000 → (∀ d ∈ ds, OkD n d) → OkD (n + 1) (.list ds)
  | tup {n : Nat} {ds : List PyData} : ds.length ≤ 100000 → (∀ d ∈ ds, OkD n d) → OkD (n + 1) (.tuple ds)
theorem g_isiT {x : V} {tp : Addr} {cs : List V} {t : Value} {us : List Value} {b : Bool} (hT : H tp = some (.tup cs)) (hc : Paired ClsV cs us) (ty : TyX K H x t) (hk : PySem.W.kitAny K t us = some b) (q : Q (.bl b) H) : rIsiT K [x, .ref tp] H Q :=
  ⟨x, tp, cs, t, us, b, rfl, hT, hc, ty, hk, q⟩
/-- t is one of two built-in types, or none of them -/
theorem kit2 {t a b : String} {r1 r2 : Bool} (h1 : kitB t a = some r1) (h2 : kitB t b = some r2) : PySem.W.kitAny K (.type t) [.type a, .type b] = some (r1 || r2) := by
  refine kitAny_cons (kit_ty h1) (fun e => ?_) (fun e => by rw [e]; rfl)
  rw [e]
  exact kitAny_cons (kit_ty h2) (fun e2 => by rw [e2]; rfl) (fun e2 => by rw [e2]; rfl)
theorem g_isiB {x c : V} {tn cn : String} {b : Bool} (h1 : ClsV c (.type cn)) (h2 : TyX K H x (.type tn)) (h3 : kitB tn cn = some b) (q : Q (.bl b) H) : rIsi K [x, c] H Q := ⟨x, c, .type tn, .type cn, b, rfl, h1, h2, kit_ty h3, q⟩
def LcEnd (g : TG) (tt : TT) (te : TE) (vs : List Nat) (σ : L2.St) (Q : VK) (J : It) (H1 : Hp) : Prop := ∀ D, H1 D = none → ∃ W : Nat → Nat → Hp → Prop, (∃ m, W 0 m (upd H1 D (.lst []))) ∧ ∀ i m H, W i m H →
  (J.stop i H ∧ Q (.ref D) H) ∨ (J.go i H ∧ ∃ Nx : Hp → Prop, (∀ H', Nx H' → ∃ m', m' < m ∧ W (i + 1) m' H') ∧ ∀ x H', J.yld i H x H' → g x (wipe σ vs) H' fun σ2 H2 => wipe σ2 vs = wipe σ vs ∧ tt σ2 H2 fun b H3 =>
    if b = true then te σ2 H3 fun y H4 => ∃ acc, H4 D = some (.lst acc) ∧ acc.length < sizeLine ∧ Nx (upd H4 D (.lst (acc ++ [y]))) else Nx H3)
theorem g_lc {wi : TI} {g : TG} {tt : TT} {te : TE} {vs : List Nat} (h : wi σ H (LcEnd g tt te vs σ Q)) : tLc wi g tt te vs σ H Q := h
theorem g_yes {QB : Bool → Hp → Prop} (q : QB true H) : tYes σ H QB := q
theorem w_lcRange {g : TG} {tt : TT} {te : TE} {vs : List Nat} {n : Int} (h1 : -(2 ^ 62) ≤ n) (h2 : n < 2 ^ 62) (Pv : Addr → Nat → Hp → Prop) (h0 : ∀ D, H D = none → Pv D 0 (upd H D (.lst [])))
    (hs : ∀ D i H', H D = none → i < n.toNat → Pv D i H' → g (.int i) (wipe σ vs) H' fun σ2 H2 => wipe σ2 vs = wipe σ vs ∧ tt σ2 H2 fun b H3 =>
      if b = true then te σ2 H3 fun y H4 => ∃ acc, H4 D = some (.lst acc) ∧ acc.length < sizeLine ∧ Pv D (i + 1) (upd H4 D (.lst (acc ++ [y]))) else Pv D (i + 1) H3) (hd : ∀ D H', H D = none → Pv D n.toNat H' → Q (.ref D) H') :
    ∃ j : Int, [V.int n] = [.int j] ∧ -(2 ^ 62) ≤ j ∧ j < 2 ^ 62 ∧ LcEnd g tt te vs σ Q (Itr 0 j.toNat) H :=
  ⟨n, rfl, h1, h2, fun D hD => lc_range (Pv D) (h0 D hD) (fun i H' hi p => by have q := hs D i H' hD hi p; rw [Int.zero_add]; exact q) (fun H' p => hd D H' hD p)⟩
end

/-! ### tables of code objects beside the drawing -/
/-- H without its tables -/
def noT (H : Hp) : Hp := fun b => match H b with
  | some (.tbl _) => none
  | o => o
theorem noT_some {H : Hp} {b : Addr} {o : HO} (h : noT H b = some o) : H b = some o ∧ ∀ ps, o ≠ .tbl ps := by
  unfold noT at h
  split at h
  · cases h
  · rename_i n
    exact ⟨h, fun ps e => n ps (by rw [h, e])⟩
theorem noT_of {H : Hp} {b : Addr} {o : HO} (h : H b = some o) (n : ∀ ps, o ≠ .tbl ps) : noT H b = some o := by
  unfold noT
  split
  · rename_i ps e
    rw [h] at e
    exact absurd (Option.some.inj e) (n ps)
  · exact h
theorem noT_same (H : Hp) : Same (noT H) H := fun _ _ h => (noT_some h).1
theorem noT_list {K : PySem.W.Frag} {H : Hp} {a : Addr} {xs : List V} (h : SqL K H a xs) : SqL K (noT H) a xs := by
  rcases h with (h | ⟨o, h⟩) | h
  · exact .inl (.inl (noT_of h (fun _ z => nomatch z)))
  · exact .inl (.inr ⟨o, noT_of h (fun _ z => nomatch z)⟩)
  · exact .inr h
/-- all but S and the tables stays -/
theorem Dst.ext {K : PySem.W.Frag} {H0 H H' : Hp} {S : Addr} (d : Dst K (noT H0) H S) (e : LamX.ExtN H H') : Dst K (noT H0) H' S := by
  obtain ⟨sc, ns, c, m, r, h1, h2, h3, h4⟩ := d
  exact ⟨sc, ns, c, m, r, e _ _ h1 (fun _ z => nomatch z), h2, fun b o n h => e _ _ (h3 b o n h) (noT_some h).2, h4⟩
theorem tabs_frm {K : PySem.W.Frag} {B H H' : Hp} {S : Addr} {T : List (Addr × Str)} (t : LamX.Tabs T H) (d : Dst K B H S) (f : Frm S H H') : LamX.Tabs T H' := fun p hp => by
  obtain ⟨sc, ns, c, m, r, hS, _⟩ := d
  obtain ⟨ps, h1, h2, h3⟩ := t p hp
  refine ⟨ps, f _ _ (ne_of h1 hS (fun z => nomatch z)) h1, h2, fun pos cv hc => ?_⟩
  obtain ⟨c', e1, e2⟩ := h3 pos cv hc
  exact ⟨c', e1, f _ _ (ne_of e2 hS (fun z => nomatch z)) e2⟩
theorem tabs_same {H H' : Hp} {T : List (Addr × Str)} (t : LamX.Tabs T H) (e : Same H H') : LamX.Tabs T H' := t.ext e
section
variable {P : Program} {w : World} {K : PySem.W.Frag} {mg : Str → Option Value} {base : Heap}
/-- a def whose code object is told -/
theorem fn_code {k : Nat} {f : Addr} {name qual : Str} {params : Arguments} {body : List Stmt} {scope : Scope} {dV kV doc pm cdv ct oc : Value} {an od : Option Addr} {osl : Array (Option Value)} {N ps : List Str} {sp : Sp}
    (lk : K.lookup f = some ⟨oc, od, .func (PySem.W.fnOf name qual params body scope dV kV doc pm an cdv ct), osl⟩) (hcd : PySem.W.codeIn K cdv qual = true) (S : FnScope N ps scope) (len : ∀ vs H Q E, sp vs H Q E → vs.length = ps.length)
    (hbody : ∀ (A : Around) (outer : List Env) (s : Shared) (H : Hp) (vs : List V) (Q : VK) (E : XK), Room k (A.deeper (envOfC qual scope s.heap.objs.size f cdv)) → sp vs H Q E →
      ∃ t, PSs (cxOf C8.CX0 P w K mg base N qual scope f cdv A outer s H E).nox body t ∧ t { nx := fun _ H' => Q .non H', rt := Q } (L2.start N vs) H) :
    FnOk P w K mg base C8.CX0 (k + 1) f (PySem.W.fnOf name qual params body scope dV kV doc pm an cdv ct) ps sp :=
  fn_of lk hcd S len fun A outer s H vs Q E hr hsp => (hbody A outer s H vs Q E hr hsp).elim fun t h => ⟨t, h.1.nox, h.2⟩
end
theorem g_lam {T : List (Addr × Str)} {TT : (XK → Hp → VK → Prop) → Hp → VK → Prop} {t : XK → TE} {σ : L2.St} {H : Hp} {Q : VK} (h : LamX.Tabs T H) (q : ∀ H1, LamX.ExtN H H1 → LamX.Tabs T H1 → TT (fun E H' Q' => t E σ H' Q') H1 Q) : LamX.tLam T TT t σ H Q := ⟨h, q⟩
end Wd
local macro_rules | `(tactic| walk_at "go") => `(tactic| repeat (first
  | with_reducible refine Wd.g_seq ?_
  | with_reducible refine Wd.g_nx ?_
  | with_reducible refine Wd.g_asg ?_
  | ((with_reducible refine' Wd.g_var ?h1 ?_); (case h1 => exact rfl))
  | with_reducible refine Wd.g_c ?_
  | with_reducible refine Wd.g_op ?_
  | with_reducible refine Wd.g_un ?_
  | with_reducible refine Wd.g_I0 ?_
  | with_reducible refine Wd.g_U ?_
  | with_reducible refine Wd.g_eqI ?_
  | with_reducible refine Wd.g_neI ?_
  | with_reducible refine Wd.g_eqS ?_
  | with_reducible refine Wd.g_neS ?_
  | with_reducible refine Wd.g_eqB ?_
  | with_reducible refine Wd.g_neB ?_
  | with_reducible refine Wd.g_isN ?_
  | with_reducible refine Wd.g_notN ?_
  | with_reducible refine Wd.g_lc ?_
  | with_reducible refine Wd.g_yes ?_
  | with_reducible refine Wd.g_test ?_
  | with_reducible refine Wd.g_tB ?_
  | with_reducible refine Wd.g_bl ?_
  | with_reducible refine Wd.g_blI ?_
  | with_reducible refine Wd.g_and ?_
  | with_reducible refine Wd.g_or ?_
  | with_reducible refine Wd.g_not ?_
  | with_reducible refine Wd.g_andV ?_
  | with_reducible refine Wd.g_orV ?_
  | with_reducible refine Wd.g_notV ?_
  | with_reducible refine Wd.g_if ?_
  | with_reducible refine Wd.g_chain ?_
  | with_reducible refine Wd.g_chain3 ?_
  | with_reducible refine Wd.g_nil ?_
  | with_reducible refine Wd.g_cons ?_
  | with_reducible refine Wd.g_tup ?_
  | with_reducible refine Wd.g_lst ?_
  | with_reducible refine Wd.g_CB ?_
  | with_reducible refine Wd.g_call ?_
  | with_reducible refine Wd.g_callS ?_
  | with_reducible refine Wd.g_bm ?_
  | with_reducible refine Wd.g_bm0 ?_
  | with_reducible refine Wd.g_sl ?_
  | with_reducible refine Wd.g_part ?_
  | with_reducible refine Wd.g_part1 ?_
  | with_reducible refine Wd.g_noPart ?_
  | with_reducible refine Wd.g_next ?_
  | with_reducible refine Wd.g_name ?_
  | with_reducible refine Wd.g_sub ?_
  | with_reducible refine Wd.g_gnil ?_
  | with_reducible refine Wd.g_gcons ?_
  | with_reducible refine Wd.g_drop ?_
  | with_reducible refine Wd.g_ret ?_
  | with_reducible refine Wd.g_retN ?_
  | with_reducible refine Wd.g_brk ?_
  | with_reducible refine Wd.g_cont ?_
  | with_reducible refine Wd.g_ifS ?_
  | with_reducible refine Wd.g_bk ?_
  | with_reducible refine Wd.g_ct ?_
  | with_reducible refine Wd.g_rt ?_
  | with_reducible refine Wd.g_for ?_
  | with_reducible refine Wd.g_rng1 ?_
  | with_reducible refine Wd.g_rng2 ?_
  | with_reducible refine Wd.g_iList ?_
  | with_reducible refine Wd.g_iTup ?_
  | ((with_reducible refine Wd.g_fit ?h1 ?_); (case h1 => exact rfl))
  | with_reducible refine Wd.g_max2 ?_
  | with_reducible refine Wd.g_min2 ?_
  | with_reducible refine Wd.g_int1B ?_
  | with_reducible refine L2.iteT ?_
  | with_reducible refine L2.iteF ?_
  | ((with_reducible refine Wd.g_itT ?h1 ?_); (case h1 => exact rfl))
  | ((with_reducible refine Wd.g_itF ?h1 ?_); (case h1 => exact rfl))))
/-! Plans as data; tuples that are repeated, made of lists; lists within comprehensions. -/
namespace Wd
open PySem PySem.Spec PyProof.Rows L2

/-! ### t * k, k from 0 on -/
theorem mul_once (l : Addr) (items : Array Value) (n : Nat) (dd : Option Addr) (sl : Array (Option Value)) (u : Tok) :
    Meets (Builtin.«tuple.__mul__» ⟨[.ref l, .int 1 u], []⟩) (fun _ R s => s.heap.get? l = some { cls := .type "tuple", dict := dd, data := .seq items n, slots := sl } ∧ R (.ok (.ret (Value.ref l))) s) :=
  .of_wp fun prog w A R s h => by
    obtain ⟨hp, g, d, tk, os⟩ := s
    obtain ⟨hl, q⟩ := h
    have one := AutoSeq1.idx_int
    wp_walk using AutoSeq1.wpAny_loadPart' hl
    exact ⟨_, rfl, q⟩
theorem mul_none (l : Addr) (items : Array Value) (n : Nat) (dd : Option Addr) (sl : Array (Option Value)) (u : Tok) (h2 : items.isEmpty = false) :
    Meets (Builtin.«tuple.__mul__» ⟨[.ref l, .int 0 u], []⟩) (fun _ R s => s.heap.get? l = some { cls := .type "tuple", dict := dd, data := .seq items n, slots := sl } ∧
      R (.ok (.ret (Value.ref s.heap.objs.size))) { s with heap := s.heap.push { cls := Value.type "tuple", data := Data.seq #[] }, toks := s.toks }) :=
  .of_wp fun prog w A R s h => by
    obtain ⟨hp, g, d, tk, os⟩ := s
    obtain ⟨hl, q⟩ := h
    have one := AutoSeq1.idx_int
    wp_walk using AutoSeq1.wpAny_loadPart' hl
    exact ⟨_, rfl, q⟩
def rRepU (K : PySem.W.Frag) : R2 := fun x y H Q => ∃ (l : Addr) (k : Int) (xs : List V), x = .ref l ∧ y = .int k ∧ SqT K H l xs ∧ xs ≠ [] ∧ 0 ≤ k ∧ k ≤ 1000 ∧ xs.length ≤ 1000 ∧ (k = 1 → Q (.ref l) H) ∧
  (k ≠ 1 → ∀ p, H p = none → Q (.ref p) (upd H p (.tup (List.replicate k.toNat xs).flatten)))
section
variable {X : Cx}
theorem op_repU : OpR X (binaryOp .Mult) (rRepU X.K) := by
  intro pins s σ H x y v u Q I rx ry h
  obtain ⟨l, k, xs, rfl, rfl, hT, hne, h0, h1, hz, q1, q2⟩ := h
  by_cases c2 : 2 ≤ k
  · exact op_repT pins s σ H _ _ _ _ Q I rx ry ⟨l, k, xs, rfl, rfl, hT, hne, c2, h1, hz, q2 (by omega)⟩
  · cases rx
    obtain ⟨t, rfl⟩ := ry
    obtain ⟨its, r, ⟨⟨cls, dd, data, sl⟩, ho, hc, n, hd⟩, hs⟩ := I.tuple hT
    simp only at hc hd
    subst hc hd
    have c01 : k = 0 ∨ k = 1 := by omega
    rcases c01 with rfl | rfl
    · have hem : its.toArray.isEmpty = false := by
        cases r with
        | nil => exact absurd rfl hne
        | cons _ _ => rfl
      refine wpAny_binaryOp_repeat_ref (T := "tuple") (U := "int") (by decide) ⟨_, ho, rfl⟩ (fun s' => typeIs_int s' 0 t) noFill_tuple_mul F.fills_int_mul F.slot_int_rmul repeat_tuple F.slot_int_index.lookup (call_meets F.slot_int_rmul (typeIs_int s 0 t) F.entry_int_rmul (F.args_int_rmul_2 _ _)
        (int_rmul_tuple 0 t l its.toArray n dd sl) ⟨ho, rfl, ⟨_, ho, rfl⟩, call_meets F.slot_tuple_mul ⟨_, ho, rfl⟩ F.entry_tuple_mul (F.args_tuple_mul_2 _ _) (mul_none l its.toArray n dd sl t hem) ⟨ho, ?_⟩⟩)
      refine ⟨.ref s.heap.objs.size, _, I.laid (t' := s.toks) (o := .tup []) (fun b ob z => Heap.get?_push_of_some _ z) (Nat.le_refl _) ?_, rfl, q2 (by decide) _ (I.hok.fresh (Nat.le_refl _))⟩
      exact ⟨Nat.zero_le _, [], .nil, IsTup.new _ _⟩
    · refine wpAny_binaryOp_repeat_ref (T := "tuple") (U := "int") (by decide) ⟨_, ho, rfl⟩ (fun s' => typeIs_int s' 1 t) noFill_tuple_mul F.fills_int_mul F.slot_int_rmul repeat_tuple F.slot_int_index.lookup (call_meets F.slot_int_rmul (typeIs_int s 1 t) F.entry_int_rmul (F.args_int_rmul_2 _ _)
        (int_rmul_tuple 1 t l its.toArray n dd sl) ⟨ho, rfl, ⟨_, ho, rfl⟩, call_meets F.slot_tuple_mul ⟨_, ho, rfl⟩ F.entry_tuple_mul (F.args_tuple_mul_2 _ _) (mul_once l its.toArray n dd sl t) ⟨ho, ?_⟩⟩)
      exact ⟨.ref l, H, I, rfl, q1 rfl⟩
end

/-! ### more steps -/
def rTupOf (K : PySem.W.Frag) : List V → Hp → VK → Prop := fun xs H Q => ∃ p ys, xs = [.ref p] ∧ ((SqL K H p ys ∧ ∀ l, H l = none → Q (.ref l) (upd H l (.tup ys))) ∨ (SqT K H p ys ∧ Q (.ref p) H))
theorem call_tuple1 {X : Cx} : CallR X (.type "tuple") (rTupOf X.K) := call_tuple_of
section
variable {K : PySem.W.Frag} {H H' : Hp} {Q : VK} {σ : L2.St} {x : V}
theorem g_tupOf {p : Addr} {ys : List V} (h : SqL K H p ys) (q : ∀ l, H l = none → Q (.ref l) (upd H l (.tup ys))) : rTupOf K [.ref p] H Q := ⟨p, ys, rfl, .inl ⟨h, q⟩⟩
theorem g_inT {p : Addr} {xs : List V} (h : SqT K H p xs) (fx : flatV x = true) (fs : xs.all flatV = true) (q : Q (.bl (inV x xs)) H) : rIn K false x (.ref p) H Q := ⟨p, xs, rfl, .inr h, fx, fs, q⟩
theorem g_notInT {p : Addr} {xs : List V} (h : SqT K H p xs) (fx : flatV x = true) (fs : xs.all flatV = true) (q : Q (.bl (!inV x xs)) H) : rIn K true x (.ref p) H Q := ⟨p, xs, rfl, .inr h, fx, fs, q⟩
theorem g_sum {a : Addr} {ns : List Int} (h : SqL K H a (ns.map V.int)) (q : Q (.int ns.sum) H) : rSum K [.ref a] H Q := ⟨a, ns, rfl, h, q⟩
theorem g_pop {l : Addr} {xs : List V} {y : V} (h : H l = some (.lst xs)) (hy : xs[xs.length - 1]? = some y) (q : Q y (upd H l (.lst xs.dropLast))) : rPop (.ref l) [] H Q := ⟨l, xs, y, rfl, rfl, h, hy, q⟩
theorem w_lcTup {g : TG} {tt : TT} {te : TE} {vs : List Nat} {p : Addr} {xs : List V} (hp : SqT K H p xs) (Pv : Addr → Nat → Hp → Prop) (h0 : ∀ D, H D = none → Pv D 0 (upd H D (.lst []))) (hl : ∀ D i H', H D = none → i ≤ xs.length → Pv D i H' → SqT K H' p xs)
    (hs : ∀ D i y H', H D = none → xs[i]? = some y → Pv D i H' → g y (wipe σ vs) H' fun σ2 H2 => wipe σ2 vs = wipe σ vs ∧ tt σ2 H2 fun b H3 =>
      if b = true then te σ2 H3 fun y H4 => ∃ acc, H4 D = some (.lst acc) ∧ acc.length < sizeLine ∧ Pv D (i + 1) (upd H4 D (.lst (acc ++ [y]))) else Pv D (i + 1) H3) (hd : ∀ D H', H D = none → Pv D xs.length H' → Q (.ref D) H') :
    ∃ q, V.ref p = .ref q ∧ (∃ xs, SqT K H q xs) ∧ LcEnd g tt te vs σ Q (Itt K q) H :=
  ⟨p, rfl, ⟨xs, hp⟩, fun D hD => lc_tup (Pv D) (h0 D hD) (fun i H' hi q => hl D i H' hD hi q) (fun i y H' hy q => hs D i y H' hD hy q) (fun H' q => hd D H' hD q)⟩
/-- the end of a comprehension's turn -/
theorem g_lcput {D : Addr} {acc : List V} {y : V} {N : Hp → Prop} (h : H D = some (.lst acc)) (hl : acc.length < 100000) (q : N (upd H D (.lst (acc ++ [y])))) : ∃ acc, H D = some (.lst acc) ∧ acc.length < sizeLine ∧ N (upd H D (.lst (acc ++ [y]))) := ⟨acc, h, Nat.lt_of_lt_of_le hl (by decide), q⟩
end

/-! ### plans -/
inductive Pl where
  | pat
  | work (a b : Int)
  | row (ps : List Pl)
  | either (ps : List Pl)
  | loop (a b : Int) (p : Pl)
/-- tuples stay -/
def KeepT (H H' : Hp) : Prop := ∀ b xs, H b = some (.tup xs) → H' b = some (.tup xs)
theorem KeepT.refl (H : Hp) : KeepT H H := fun _ _ h => h
theorem KeepT.trans {H H1 H2 : Hp} (a : KeepT H H1) (b : KeepT H1 H2) : KeepT H H2 := fun c xs h => b c xs (a c xs h)
theorem keepT_same {H H' : Hp} (e : Same H H') : KeepT H H' := fun b xs h => e b _ h
theorem keepT_new {H : Hp} {p : Addr} {o : HO} (h : H p = none) : KeepT H (upd H p o) := keepT_same (same_new h)
theorem keepT_lst {H : Hp} {p : Addr} {o : HO} {xs : List V} (h : H p = some (.lst xs)) : KeepT H (upd H p o) := fun b ys e => by rw [upd_ne (ne_of e h (fun z => nomatch z))]; exact e
theorem keepT_frm {K : PySem.W.Frag} {B H H' : Hp} {S : Addr} (d : Dst K B H S) (f : Frm S H H') : KeepT H H' := fun b xs h => by
  obtain ⟨sc, ns, c, m, r, hS, _⟩ := d
  exact f b _ (ne_of h hS (fun z => nomatch z)) h
mutual
inductive PlA (H : Hp) : V → Pl → Prop
  | pat {a : Addr} : H a = some (.tup [.str "pat"]) → PlA H (.ref a) .pat
  | work {a : Addr} {x y : Int} : H a = some (.tup [.str "work", .int x, .int y]) → PlA H (.ref a) (.work x y)
  | row {a b : Addr} {vs : List V} {ps : List Pl} : H a = some (.tup [.str "row", .ref b]) → H b = some (.tup vs) → PlAs H vs ps → PlA H (.ref a) (.row ps)
  | either {a b : Addr} {vs : List V} {ps : List Pl} : H a = some (.tup [.str "either", .ref b]) → H b = some (.tup vs) → PlAs H vs ps → PlA H (.ref a) (.either ps)
  | loop {a : Addr} {x y : Int} {u : V} {p : Pl} : H a = some (.tup [.str "loop", .int x, .int y, u]) → PlA H u p → PlA H (.ref a) (.loop x y p)
inductive PlAs (H : Hp) : List V → List Pl → Prop
  | nil : PlAs H [] []
  | cons {v : V} {vs : List V} {p : Pl} {ps : List Pl} : PlA H v p → PlAs H vs ps → PlAs H (v :: vs) (p :: ps)
end
mutual
theorem PlA_keep {H H' : Hp} (e : KeepT H H') : ∀ (p : Pl) (v : V), PlA H v p → PlA H' v p
  | .pat, _, h => by cases h with | pat h => exact .pat (e _ _ h)
  | .work _ _, _, h => by cases h with | work h => exact .work (e _ _ h)
  | .row ps, _, h => by cases h with | row h1 h2 h3 => exact .row (e _ _ h1) (e _ _ h2) (PlAs_keep e ps _ h3)
  | .either ps, _, h => by cases h with | either h1 h2 h3 => exact .either (e _ _ h1) (e _ _ h2) (PlAs_keep e ps _ h3)
  | .loop _ _ p, _, h => by cases h with | loop h1 h2 => exact .loop (e _ _ h1) (PlA_keep e p _ h2)
theorem PlAs_keep {H H' : Hp} (e : KeepT H H') : ∀ (ps : List Pl) (vs : List V), PlAs H vs ps → PlAs H' vs ps
  | [], _, h => by cases h; exact .nil
  | p :: ps, _, h => by cases h with | cons h1 h2 => exact .cons (PlA_keep e p _ h1) (PlAs_keep e ps _ h2)
end
theorem PlAs.len {H : Hp} : ∀ {vs : List V} {ps : List Pl}, PlAs H vs ps → vs.length = ps.length
  | [], [], _ => rfl
  | _ :: _, _ :: _, .cons _ h => by rw [List.length_cons, List.length_cons, PlAs.len h]
theorem PlAs.at {H : Hp} : ∀ {vs : List V} {ps : List Pl} {i : Nat} {v : V}, PlAs H vs ps → vs[i]? = some v → ∃ p, ps[i]? = some p ∧ PlA H v p
  | _, _, 0, _, .cons h _, e => by cases e; exact ⟨_, rfl, h⟩
  | _, _, i + 1, _, .cons _ h, e => PlAs.at (i := i) h e
theorem PlAs.snoc {H : Hp} : ∀ {vs : List V} {ps : List Pl} {v : V} {p : Pl}, PlAs H vs ps → PlA H v p → PlAs H (vs ++ [v]) (ps ++ [p])
  | _, _, _, _, .nil, h => .cons h .nil
  | _, _, _, _, .cons a b, h => .cons a (PlAs.snoc b h)
theorem PlAs.rep {H : Hp} {v : V} {p : Pl} (h : PlA H v p) : ∀ n : Nat, PlAs H (List.replicate n [v]).flatten (List.replicate n p)
  | 0 => .nil
  | n + 1 => .cons h (PlAs.rep h n)
mutual
/-- how many tuples are plans; how deep; how many loops within one another; its bounds as they should be -/
def cnt : Pl → Nat
  | .pat => 1
  | .work _ _ => 1
  | .row ps => 1 + cnts ps
  | .either ps => 1 + cnts ps
  | .loop _ _ p => 1 + cnt p
def cnts : List Pl → Nat
  | [] => 0
  | p :: ps => cnt p + cnts ps
end
mutual
def okP : Nat → Nat → Pl → Prop
  | _, _, .pat => True
  | _, _, .work a b => 0 ≤ a ∧ a ≤ b ∧ b ≤ 1000
  | 0, _, .row _ => False
  | d + 1, l, .row ps => 0 < ps.length ∧ ps.length ≤ 20 ∧ okPs d l ps
  | 0, _, .either _ => False
  | d + 1, l, .either ps => 0 < ps.length ∧ ps.length ≤ 20 ∧ okPs d l ps
  | 0, _, .loop _ _ _ => False
  | _ + 1, 0, .loop _ _ _ => False
  | d + 1, l + 1, .loop a b p => 0 ≤ a ∧ a ≤ b ∧ b ≤ 9 ∧ okP d l p
def okPs : Nat → Nat → List Pl → Prop
  | _, _, [] => True
  | d, l, p :: ps => okP d l p ∧ okPs d l ps
end
theorem okPs_at {d l : Nat} : ∀ {ps : List Pl} {i : Nat} {p : Pl}, okPs d l ps → ps[i]? = some p → okP d l p
  | _ :: _, 0, _, h, e => by cases e; exact h.1
  | _ :: ps, i + 1, _, h, e => okPs_at (ps := ps) (i := i) h.2 e
theorem okPs_snoc {d l : Nat} : ∀ {ps : List Pl} {p : Pl}, okPs d l ps → okP d l p → okPs d l (ps ++ [p])
  | [], _, _, h => ⟨h, trivial⟩
  | _ :: ps, _, h1, h => ⟨h1.1, okPs_snoc h1.2 h⟩
theorem okPs_rep {d l : Nat} {p : Pl} (h : okP d l p) : ∀ n : Nat, okPs d l (List.replicate n p)
  | 0 => trivial
  | n + 1 => ⟨h, okPs_rep h n⟩
theorem cnt_pos : ∀ p : Pl, 1 ≤ cnt p
  | .pat => Nat.le_refl 1
  | .work _ _ => Nat.le_refl 1
  | .row _ => Nat.le_add_right 1 _
  | .either _ => Nat.le_add_right 1 _
  | .loop _ _ _ => Nat.le_add_right 1 _
theorem small_lt {n : Nat} (h : n < 100000) : n < sizeLine := Nat.lt_of_lt_of_le h (by decide)
end Wd
namespace K03
open PySem PySem.Spec PyProof.Rows L2 Wd
def top (i : Nat) : Stmt := PySem.Challenge.pw_windowdog_k03_plans_run.main.body.getD i (.Pass ⟨0, 0, 0, 0⟩)
/-- the built-in names that the text calls -/
structure Txt (K : PySem.W.Frag) (mg : Str → Option Value) : Prop where
  n_isinstance : mg "isinstance" = none
  n_len : mg "len" = none
  n_int : mg "int" = none
  n_bool : mg "bool" = none
  n_range : mg "range" = none
  n_list : mg "list" = none
  n_tuple : mg "tuple" = none
  n_str : mg "str" = none
  n_sum : mg "sum" = none
section
variable {P : Program} {w : World} {K : PySem.W.Frag} {mg : Str → Option Value} {base : Heap}
abbrev s_law_start : Stmt := top 20
theorem sc_law_start : FnScope ["_law_script", "_law_mixed", "_law_cell"] ["_law_script"] (C8.fnScope s_law_start) := C8.fnScope_by (by decide +kernel)
def sp_start (K : PySem.W.Frag) : Sp := fun vs H Q _ => ∃ (B : Hp) (sc : Addr) (ns : List Int), vs = [.ref sc] ∧ SqL K B sc (ns.map V.int) ∧ Same B H ∧ ns.length ≤ 63 ∧ ∀ H' S, H S = none → Same H H' → Dst K B H' S → Q (.ref S) H'
theorem ok_start (T : Txt K mg) {f : Addr} {fd : FuncData} (D : C8.Def K mg "_law_start" s_law_start f fd) (b : Binds K fd ["_law_script"] []) : C8.Cal P w K mg base 1 "_law_start" (sp_start K) [] := by
  refine C8.cal0 D b .nil sc_law_start (fun vs H Q E h => ?_) fun cdv A outer s H vs Q E hr h => ?_
  · obtain ⟨B, sc, ns, rfl, _⟩ := h; rfl
  · obtain ⟨B, sc, ns, rfl, hB, sB, hl, q⟩ := h
    have hS := list_same sB hB
    have nd := sc_law_start.nd
    refine ⟨_, (pss_cons (ps_set (i := 1) nd rfl (Or.inl rfl) pe_int)
      (pss_cons (ps_for PassesOwn.never rfl (pi_list (pv 0)) (pg_name (i := 2) nd rfl (Or.inl rfl)) (pss_one (ps_set (i := 1) nd rfl (Or.inl rfl) (pe_op op_mod (pe_op op_add (pe_op op_add (pe_op op_mulW (pv 1) pe_int) (pv 2)) pe_int) pe_int))))
      (pss_one (ps_ret (pe_lst (pa_cons (pv 0) (pa_cons pe_int (pa_cons (pv 1) (pa_cons pe_int pa_nil))))))))), ?_⟩
    walk_at "go"
    refine w_list (xs := ns.map V.int) (fun i σ H' => H' = H ∧ ∃ (m : Int) (v : Option V), σ = [some (.ref sc), some (.int m), v] ∧ 0 ≤ m ∧ m < 2147483647) ?_ ?_ ?_ ?_
    · exact ⟨rfl, 1, none, rfl, by decide, by decide⟩
    · rintro i σ H' _ ⟨rfl, _⟩; exact hS
    · rintro i x σ H' hx ⟨rfl, m, v, rfl, h1, h2⟩
      obtain ⟨c, hc, rfl⟩ := map_at hx
      walk_at "go"
      refine g_I (mulW_small h1 (by omega) (by decide) (by decide)) ?_
      walk_at "go"
      refine g_I (show (0 : Int) < 2147483647 by decide) ?_
      walk_at "go"
      exact ⟨rfl, _, _, rfl, by omega, by omega⟩
    · rintro σ H' ⟨rfl, m, v, rfl, h1, h2⟩
      walk_at "go"
      intro S hn
      exact q _ S hn (same_new hn) ⟨sc, ns, 0, m, 0, upd_same, .of hB (fun _ _ h => h) (Same.back sB hn), .of (sB.trans (same_new hn)), hl, by decide, h1, h2⟩

abbrev s_law_drawn : Stmt := top 21
theorem sc_law_drawn : FnScope ["_law_state", "_law_many", "_law_found", "_law_cell"] ["_law_state", "_law_many"] (C8.fnScope s_law_drawn) := C8.fnScope_by (by decide +kernel)
def sp_drawn (K : PySem.W.Frag) : Sp := fun vs H Q _ => ∃ (B : Hp) (S : Addr) (n : Int), vs = [.ref S, .int n] ∧ Dst K B H S ∧ 0 < n ∧ n < 10 ^ 38 ∧ ∀ H' v, Frm S H H' → Dst K B H' S → 0 ≤ v → v < n → Q (.int v) H'
theorem ok_drawn (T : Txt K mg) {f : Addr} {fd : FuncData} (D : C8.Def K mg "_law_drawn" s_law_drawn f fd) (b : Binds K fd ["_law_state", "_law_many"] []) : C8.Cal P w K mg base 1 "_law_drawn" (sp_drawn K) [] := by
  refine C8.cal0 D b .nil sc_law_drawn (fun vs H Q E h => ?_) fun cdv A outer s H vs Q E hr h => ?_
  · obtain ⟨B, S, n, rfl, _⟩ := h; rfl
  · obtain ⟨B, S, n, rfl, ⟨sc, ns, c, m, r, hS, hsB, fB, hl, c0, m0, m1⟩, n0, n1, q⟩ := h
    have hsc := hsB.frm fB
    have nd := sc_law_drawn.nd
    refine ⟨_, (pss_cons (ps_if (pt_cmpR op_gt (pe_ix (r := rIxL K) ix_list (pv 0) pe_int (fun _ _ => rfl)) pe_int (nomark _)) (pss_cons (ps_set (i := 2) nd rfl (Or.inl rfl) (pe_op op_mod (pe_ix (r := rIxL K) ix_list (pv 0) pe_int (fun _ _ => rfl)) (pv 1)))
      (pss_cons (ps_asg (pe_op op_fdivW (pe_ix (r := rIxL K) ix_list (pv 0) pe_int (fun _ _ => rfl)) (pv 1)) (pg_sub (pv 0) pe_int set_list))
      (pss_one (ps_ret (pv 2))))) pss_nil)
      (pss_cons (ps_asg (pe_op op_add (pe_ix (r := rIxL K) ix_list (pv 0) pe_int (fun _ _ => rfl)) pe_int) (pg_sub (pv 0) pe_int set_list))
      (pss_cons (ps_if (pt_cmpR op_le (pe_ix (r := rIxL K) ix_list (pv 0) pe_int (fun _ _ => rfl)) (pe_callB (r := Wd.rLen K) call_len1 (by rfl) T.n_len PySem.boot_len (pa_cons (pe_ix (r := rIxL K) ix_list (pv 0) pe_int (fun _ _ => rfl)) pa_nil)) (nomark _)) (pss_cons (ps_set (i := 3) nd rfl (Or.inl rfl) (pe_ix (r := rIxL K) ix_list (pe_ix (r := rIxL K) ix_list (pv 0) pe_int (fun _ _ => rfl)) (pe_op op_sub (pe_ix (r := rIxL K) ix_list (pv 0) pe_int (fun _ _ => rfl)) pe_int) (fun _ _ => rfl)))
      (pss_cons (ps_asg (pe_ifExp (pt_cmpR op_ge (pv 3) (pe_op op_pow pe_int pe_int) (nomark _)) (pe_op op_fdivW (pv 3) (pv 1)) pe_int) (pg_sub (pv 0) pe_int set_list))
      (pss_one (ps_ret (pe_op op_mod (pv 3) (pv 1)))))) pss_nil)
      (pss_cons (ps_asg (pe_op op_mod (pe_op op_add (pe_op op_mulW (pe_ix (r := rIxL K) ix_list (pv 0) pe_int (fun _ _ => rfl)) pe_int) pe_int) pe_int) (pg_sub (pv 0) pe_int set_list))
      (pss_one (ps_ret (pe_op op_mod (pe_op op_fdivW (pe_ix (r := rIxL K) ix_list (pv 0) pe_int (fun _ _ => rfl)) pe_int) (pv 1)))))))), ?_⟩
    walk_at "go"
    refine g_ixL (SqL.of hS) rfl ?_
    walk_at "go"
    refine g_ite (fun hr0 => ?_) (fun hr0 => ?_)
    · walk_at "go"
      refine g_ixL (SqL.of hS) rfl ?_
      walk_at "go"
      refine g_I n0 ?_
      walk_at "go"
      refine g_ixL (SqL.of hS) rfl ?_
      walk_at "go"
      refine g_I (divW_small n0 n1) ?_
      walk_at "go"
      refine g_setL hS rfl ?_
      walk_at "go"
      exact q _ _ .set ⟨sc, ns, c, m, r / n, upd_same, hsB, fB.trans .set, hl, c0, m0, m1⟩ (Int.emod_nonneg _ (by omega)) (Int.emod_lt_of_pos _ n0)
    · walk_at "go"
      refine g_ixL (SqL.of hS) rfl ?_
      walk_at "go"
      refine g_setL hS rfl ?_
      walk_at "go"
      refine g_ixL (SqL.of upd_same) rfl ?_
      walk_at "go"
      refine g_ixL (SqL.of upd_same) rfl ?_
      walk_at "go"
      refine g_len (.inl (hsc.frm .set).sq) ?_
      walk_at "go"
      rw [List.length_map]
      refine g_ite (fun hc => ?_) (fun hc => ?_)
      · walk_at "go"
        refine g_ixL (SqL.of upd_same) rfl ?_
        walk_at "go"
        refine g_ixL (SqL.of upd_same) rfl ?_
        walk_at "go"
        have hcl : c.toNat < ns.length := by omega
        refine g_ixL (hsc.frm .set).sq (at_of (j := c.toNat) (v := V.int (ns[c.toNat]'hcl)) (by omega) (by rw [List.getElem?_map, List.getElem?_eq_getElem hcl]; rfl)) ?_
        generalize ns[c.toNat]'hcl = z
        walk_at "go"
        refine g_I (pow_small (by decide) (by decide) (by decide)) ?_
        walk_at "go"
        have fin : ∀ x : Int, Frm S H (upd (upd H S (HO.lst [V.ref sc, V.int (c + 1), V.int m, V.int r])) S (HO.lst [V.ref sc, V.int (c + 1), V.int m, V.int x])) ∧ Dst K B (upd (upd H S (HO.lst [V.ref sc, V.int (c + 1), V.int m, V.int r])) S (HO.lst [V.ref sc, V.int (c + 1), V.int m, V.int x])) S := fun x =>
          ⟨Frm.set.trans .set, sc, ns, c + 1, m, x, upd_same, hsB, (fB.trans .set).trans .set, hl, by omega, m0, m1⟩
        refine g_ite (fun hz => ?_) (fun hz => ?_)
        · walk_at "go"
          refine g_I (divW_small n0 n1) ?_
          walk_at "go"
          refine g_setL upd_same rfl ?_
          walk_at "go"
          refine g_I n0 ?_
          exact q _ _ (fin _).1 (fin _).2 (Int.emod_nonneg _ (by omega)) (Int.emod_lt_of_pos _ n0)
        · walk_at "go"
          refine g_setL upd_same rfl ?_
          walk_at "go"
          refine g_I n0 ?_
          exact q _ _ (fin _).1 (fin _).2 (Int.emod_nonneg _ (by omega)) (Int.emod_lt_of_pos _ n0)
      · walk_at "go"
        refine g_ixL (SqL.of upd_same) rfl ?_
        walk_at "go"
        refine g_I (mulW_small m0 (by omega) (by decide) (by decide)) ?_
        walk_at "go"
        refine g_I (show (0 : Int) < 2147483647 by decide) ?_
        walk_at "go"
        refine g_setL upd_same rfl ?_
        walk_at "go"
        refine g_ixL (SqL.of upd_same) rfl ?_
        walk_at "go"
        refine g_I (divW_small (by decide) (by decide)) ?_
        walk_at "go"
        refine g_I n0 ?_
        exact q _ _ (Frm.set.trans .set) ⟨sc, ns, c + 1, _, r, upd_same, hsB, (fB.trans .set).trans .set, hl, by omega, Int.emod_nonneg _ (by decide), Int.emod_lt_of_pos _ (by decide)⟩ (Int.emod_nonneg _ (by omega)) (Int.emod_lt_of_pos _ n0)
theorem use_drawn {B H : Hp} {S : Addr} {n : Int} {Q : VK} {E : XK} (d : Dst K B H S) (h0 : 0 < n) (h1 : n < 10 ^ 38) (k : ∀ H' v, Frm S H H' → Dst K B H' S → 0 ≤ v → v < n → Q (.int v) H') : sp_drawn K ([.ref S, .int n] ++ []) H Q E := ⟨B, S, n, rfl, d, h0, h1, k⟩

abbrev s_law_same : Stmt := top 22
theorem sc_law_same : FnScope ["_law_found", "_law_due", "_law_k"] ["_law_found", "_law_due"] (C8.fnScope s_law_same) := C8.fnScope_by (by decide +kernel)
/-- two things of the same data: told to be the same -/
def sp_same (K : PySem.W.Frag) : Nat → Sp
  | 0 => fun _ _ _ _ => False
  | n + 1 => fun vs H Q _ => ∃ (x y : V) (d : PyData), vs = [x, y] ∧ Dp K H x d ∧ Dp K H y d ∧ OkD n d ∧ ∀ H', Same H H' → Q (.bl true) H'
theorem same_step (T : Txt K mg) {n : Nat} {f : Addr} {fd : FuncData} (D : C8.Def K mg "_law_same" s_law_same f fd) (b : Binds K fd ["_law_found", "_law_due"] []) (g_law_same : C8.Cal P w K mg base n "_law_same" (sp_same K n) []) : C8.Cal P w K mg base (n + 1) "_law_same" (sp_same K (n + 1)) [] := by
  refine C8.cal0 D b .nil sc_law_same (fun vs H Q E h => ?_) fun cdv A outer s H vs Q E hr h => ?_
  · obtain ⟨x, y, d, rfl, _⟩ := h; rfl
  · obtain ⟨x, y, d, rfl, hx, hy, ok, q⟩ := h
    have nd := sc_law_same.nd
    have hr : Room n _ := hr
    refine ⟨_, (pss_cons (ps_if (pt_val (pe_callB (r := rIsiT K) call_isiT (by rfl) T.n_isinstance (by decide +kernel) (pa_cons (pv 1) (pa_cons (pe_tup (pa_cons (pe_bltn (v := .ty "tuple") (by rfl) T.n_tuple (by decide +kernel) rfl) (pa_cons (pe_bltn (v := .ty "list") (by rfl) T.n_list (by decide +kernel) rfl) pa_nil))) pa_nil)))) (pss_cons (ps_if (PW.pt (pw_or (pt_not (pt_val (pe_callB (r := rIsiT K) call_isiT (by rfl) T.n_isinstance (by decide +kernel) (pa_cons (pv 0) (pa_cons (pe_tup (pa_cons (pe_bltn (v := .ty "tuple") (by rfl) T.n_tuple (by decide +kernel) rfl) (pa_cons (pe_bltn (v := .ty "list") (by rfl) T.n_list (by decide +kernel) rfl) pa_nil))) pa_nil))))) (pw_or1 (pt_cmpR op_ne (pe_callB (r := rIsi K) call_isi (by rfl) T.n_isinstance (by decide +kernel) (pa_cons (pv 0) (pa_cons (pe_bltn (v := .ty "list") (by rfl) T.n_list (by decide +kernel) rfl) pa_nil))) (pe_callB (r := rIsi K) call_isi (by rfl) T.n_isinstance (by decide +kernel) (pa_cons (pv 1) (pa_cons (pe_bltn (v := .ty "list") (by rfl) T.n_list (by decide +kernel) rfl) pa_nil))) (nomark _))))) (pss_one (ps_ret pe_bl)) pss_nil)
      (pss_cons (ps_if (pt_cmpR op_ne (pe_callB (r := Wd.rLen K) call_len1 (by rfl) T.n_len PySem.boot_len (pa_cons (pv 0) pa_nil)) (pe_callB (r := Wd.rLen K) call_len1 (by rfl) T.n_len PySem.boot_len (pa_cons (pv 1) pa_nil)) (nomark _)) (pss_one (ps_ret pe_bl)) pss_nil)
      (pss_one (ps_ret (pe_cmpR (r := rEqD K) (op_eqD hr.units) (pe_lc (own := [("_law_k", 2)]) (g := gName 2) rfl nd (pi_range1 rfl T.n_range (pa_cons (pe_callB (r := Wd.rLen K) call_len1 (by rfl) T.n_len PySem.boot_len (pa_cons (pv 1) pa_nil)) pa_nil)) (blkOk_by (N := ["_law_found", "_law_due", "_law_k"]) (sc := C8.fnScope s_law_same) (by decide +kernel)) (fun _ _ _ _ _ => pg_name (i := 2) nd rfl (Or.inl rfl)) (fun _ _ _ _ _ => pts_one (pt_not (pt_val (C8.pe_c g_law_same hr (by first | decide | exact Nat.le_refl _ | omega) (by rfl) (pa_cons (pe_ix (r := rIx K) ix_seq (pv 0) (pv 2) (fun _ _ => rfl)) (pa_cons (pe_ix (r := rIx K) ix_seq (pv 1) (pv 2) (fun _ _ => rfl)) pa_nil)))))) (fun _ _ _ _ _ => (pv 2))) (pe_lst pa_nil) (nomark _)))))) pss_nil)
      (pss_cons (ps_if (pt_cmpR op_isN1 (pv 1) pe_non (nomark _)) (pss_one (ps_ret (pe_cmpR op_isN1 (pv 0) pe_non (nomark _)))) pss_nil)
      (pss_cons (ps_if (pt_val (pe_callB (r := rIsi K) call_isi (by rfl) T.n_isinstance (by decide +kernel) (pa_cons (pv 1) (pa_cons (pe_bltn (v := .ty "str") (by rfl) T.n_str (by decide +kernel) rfl) pa_nil)))) (pss_one (ps_ret (pe_and (pe_callB (r := rIsi K) call_isi (by rfl) T.n_isinstance (by decide +kernel) (pa_cons (pv 0) (pa_cons (pe_bltn (v := .ty "str") (by rfl) T.n_str (by decide +kernel) rfl) pa_nil))) (pe_one (pe_cmpR op_eq (pv 0) (pv 1) (nomark _)))))) pss_nil)
      (pss_cons (ps_if (PW.pt (pw_or (pt_val (pe_callB (r := rIsi K) call_isi (by rfl) T.n_isinstance (by decide +kernel) (pa_cons (pv 1) (pa_cons (pe_bltn (v := .ty "bool") (by rfl) T.n_bool (by decide +kernel) rfl) pa_nil)))) (pw_or1 (pt_val (pe_callB (r := rIsi K) call_isi (by rfl) T.n_isinstance (by decide +kernel) (pa_cons (pv 0) (pa_cons (pe_bltn (v := .ty "bool") (by rfl) T.n_bool (by decide +kernel) rfl) pa_nil))))))) (pss_one (ps_ret (pe_and (pe_callB (r := rIsi K) call_isi (by rfl) T.n_isinstance (by decide +kernel) (pa_cons (pv 1) (pa_cons (pe_bltn (v := .ty "bool") (by rfl) T.n_bool (by decide +kernel) rfl) pa_nil))) (pe_and (pe_callB (r := rIsi K) call_isi (by rfl) T.n_isinstance (by decide +kernel) (pa_cons (pv 0) (pa_cons (pe_bltn (v := .ty "bool") (by rfl) T.n_bool (by decide +kernel) rfl) pa_nil))) (pe_one (pe_cmpR op_eq (pv 0) (pv 1) (nomark _))))))) pss_nil)
      (pss_one (ps_ret (pe_and (pe_callB (r := rIsi K) call_isi (by rfl) T.n_isinstance (by decide +kernel) (pa_cons (pv 0) (pa_cons (pe_bltn (v := .ty "int") (by rfl) T.n_int (by decide +kernel) rfl) pa_nil))) (pe_one (pe_cmpR op_eq (pv 0) (pv 1) (nomark _)))))))))), ?_⟩
    walk_at "go"
    intro t1 ht1
    walk_at "go"
    have s1 := same_new (o := .tup [.ty "tuple", .ty "list"]) ht1
    have cls : Paired ClsV [.ty "tuple", .ty "list"] [.type "tuple", .type "list"] := .cons (.ty _) (.cons (.ty _) .nil)
    have hy1 := Dp_same s1 d y hy
    have hx1 := Dp_same s1 d x hx
    cases ok with
    | non =>
      cases hy1; cases hx1
      refine g_isiT upd_same cls (.base .non) (kit2 (r1 := false) (r2 := false) (by decide +kernel) (by decide +kernel)) ?_
      walk_at "go"
      exact q _ s1
    | str z =>
      cases hy1; cases hx1
      refine g_isiT upd_same cls (.base (.str _)) (kit2 (r1 := false) (r2 := false) (by decide +kernel) (by decide +kernel)) ?_
      walk_at "go"
      refine g_isiB (.ty _) (.base (.str _)) (b := true) (by decide +kernel) ?_
      walk_at "go"
      refine g_isiB (.ty _) (.base (.str _)) (b := true) (by decide +kernel) ?_
      walk_at "go"
      rw [decide_eq_true rfl]
      exact q _ s1
    | bl z =>
      cases hy1; cases hx1
      refine g_isiT upd_same cls (.base (.bl _)) (kit2 (r1 := false) (r2 := false) (by decide +kernel) (by decide +kernel)) ?_
      walk_at "go"
      refine g_isiB (.ty _) (.base (.bl _)) (b := false) (by decide +kernel) ?_
      walk_at "go"
      refine g_isiB (.ty _) (.base (.bl _)) (b := true) (by decide +kernel) ?_
      walk_at "go"
      refine g_isiB (.ty _) (.base (.bl _)) (b := true) (by decide +kernel) ?_
      walk_at "go"
      refine g_isiB (.ty _) (.base (.bl _)) (b := true) (by decide +kernel) ?_
      walk_at "go"
      rw [beq_self_eq_true]
      exact q _ s1
    | int z =>
      cases hy1; cases hx1
      refine g_isiT upd_same cls (.base (.int _)) (kit2 (r1 := false) (r2 := false) (by decide +kernel) (by decide +kernel)) ?_
      walk_at "go"
      refine g_isiB (.ty _) (.base (.int _)) (b := false) (by decide +kernel) ?_
      walk_at "go"
      refine g_isiB (.ty _) (.base (.int _)) (b := false) (by decide +kernel) ?_
      walk_at "go"
      refine g_isiB (.ty _) (.base (.int _)) (b := false) (by decide +kernel) ?_
      walk_at "go"
      refine g_isiB (.ty _) (.base (.int _)) (b := true) (by decide +kernel) ?_
      walk_at "go"
      rw [decide_eq_true rfl]
      exact q _ s1
    | @lst m ds hl hd =>
      cases hy1 with
      | @lst ay ys _ sy py =>
      cases hx1 with
      | @lst ax xs _ sx px =>
      refine g_isiT upd_same cls (ty_list sy) (kit2 (r1 := false) (r2 := true) (by decide +kernel) (by decide +kernel)) ?_
      walk_at "go"
      intro t2 ht2
      have s2 := s1.trans (same_new (o := .tup [.ty "tuple", .ty "list"]) ht2)
      have e2 := same_new (o := .tup [.ty "tuple", .ty "list"]) ht2
      walk_at "go"
      refine g_isiT upd_same cls (ty_list (list_same e2 sx)) (kit2 (r1 := false) (r2 := true) (by decide +kernel) (by decide +kernel)) ?_
      walk_at "go"
      refine g_isiB (.ty _) (ty_list (list_same e2 sx)) (b := true) (by decide +kernel) ?_
      walk_at "go"
      refine g_isiB (.ty _) (ty_list (list_same e2 sy)) (b := true) (by decide +kernel) ?_
      walk_at "go"
      refine g_len (.inl (list_same e2 sx)) ?_
      walk_at "go"
      refine g_len (.inl (list_same e2 sy)) ?_
      walk_at "go"
      rw [DpAll.len px, DpAll.len py]
      refine g_iteN (fun hh => absurd rfl hh) (fun _ => ?_)
      walk_at "go"
      refine g_len (.inl (list_same e2 sy)) ?_
      walk_at "go"
      rw [DpAll.len py]
      refine w_lcRange (by omega) (by omega) (fun D i H' => Same (upd H t1 (.tup [.ty "tuple", .ty "list"])) H' ∧ H' D = some (.lst [])) ?_ ?_ ?_
      · intro D hD
        exact ⟨e2.trans (same_new hD), upd_same⟩
      · rintro D i H' hD hi ⟨sm, eD⟩
        have hi' : i < ds.length := by omega
        have hdi : ds[i]? = some ds[i] := List.getElem?_eq_getElem hi'
        obtain ⟨vx, hvx, dvx⟩ := DpAll.at px hdi
        obtain ⟨vy, hvy, dvy⟩ := DpAll.at py hdi
        walk_at "go"
        refine ⟨rfl, ?_⟩
        walk_at "go"
        refine .inl ⟨ax, xs, _, vx, rfl, rfl, list_same sm sx, at_of (j := i) rfl hvx, ?_⟩
        walk_at "go"
        refine .inl ⟨ay, ys, _, vy, rfl, rfl, list_same sm sy, at_of (j := i) rfl hvy, ?_⟩
        walk_at "go"
        refine ⟨vx, vy, ds[i], rfl, Dp_same sm _ _ dvx, Dp_same sm _ _ dvy, hd _ (List.getElem_mem hi'), fun H3 s3 => ?_⟩
        walk_at "go"
        exact ⟨sm.trans s3, s3 _ _ eD⟩
      · rintro D H' hD ⟨sm, eD⟩
        walk_at "go"
        intro z hz
        walk_at "go"
        refine g_eqLI (ns := []) (ms := []) (SqL.of (same_new hz _ _ eD)) (SqL.of upd_same) ?_
        walk_at "go"
        exact q _ ((s1.trans sm).trans (same_new hz))
    | @tup m ds hl hd =>
      cases hy1 with
      | @tup ay ys _ sy py =>
      cases hx1 with
      | @tup ax xs _ sx px =>
      refine g_isiT upd_same cls (ty_tup sy) (kit2 (r1 := true) (r2 := false) (by decide +kernel) (by decide +kernel)) ?_
      walk_at "go"
      intro t2 ht2
      have s2 := s1.trans (same_new (o := .tup [.ty "tuple", .ty "list"]) ht2)
      have e2 := same_new (o := .tup [.ty "tuple", .ty "list"]) ht2
      walk_at "go"
      refine g_isiT upd_same cls (ty_tup (tup_same e2 sx)) (kit2 (r1 := true) (r2 := false) (by decide +kernel) (by decide +kernel)) ?_
      walk_at "go"
      refine g_isiB (.ty _) (ty_tup (tup_same e2 sx)) (b := false) (by decide +kernel) ?_
      walk_at "go"
      refine g_isiB (.ty _) (ty_tup (tup_same e2 sy)) (b := false) (by decide +kernel) ?_
      walk_at "go"
      refine g_len (.inr (tup_same e2 sx)) ?_
      walk_at "go"
      refine g_len (.inr (tup_same e2 sy)) ?_
      walk_at "go"
      rw [DpAll.len px, DpAll.len py]
      refine g_iteN (fun hh => absurd rfl hh) (fun _ => ?_)
      walk_at "go"
      refine g_len (.inr (tup_same e2 sy)) ?_
      walk_at "go"
      rw [DpAll.len py]
      refine w_lcRange (by omega) (by omega) (fun D i H' => Same (upd H t1 (.tup [.ty "tuple", .ty "list"])) H' ∧ H' D = some (.lst [])) ?_ ?_ ?_
      · intro D hD
        exact ⟨e2.trans (same_new hD), upd_same⟩
      · rintro D i H' hD hi ⟨sm, eD⟩
        have hi' : i < ds.length := by omega
        have hdi : ds[i]? = some ds[i] := List.getElem?_eq_getElem hi'
        obtain ⟨vx, hvx, dvx⟩ := DpAll.at px hdi
        obtain ⟨vy, hvy, dvy⟩ := DpAll.at py hdi
        walk_at "go"
        refine ⟨rfl, ?_⟩
        walk_at "go"
        refine .inr (.inl ⟨ax, xs, _, vx, rfl, rfl, tup_same sm sx, at_of (j := i) rfl hvx, ?_⟩)
        walk_at "go"
        refine .inr (.inl ⟨ay, ys, _, vy, rfl, rfl, tup_same sm sy, at_of (j := i) rfl hvy, ?_⟩)
        walk_at "go"
        refine ⟨vx, vy, ds[i], rfl, Dp_same sm _ _ dvx, Dp_same sm _ _ dvy, hd _ (List.getElem_mem hi'), fun H3 s3 => ?_⟩
        walk_at "go"
        exact ⟨sm.trans s3, s3 _ _ eD⟩
      · rintro D H' hD ⟨sm, eD⟩
        walk_at "go"
        intro z hz
        walk_at "go"
        refine g_eqLI (ns := []) (ms := []) (SqL.of (same_new hz _ _ eD)) (SqL.of upd_same) ?_
        walk_at "go"
        exact q _ ((s1.trans sm).trans (same_new hz))
/-- at every depth -/
theorem ok_same (T : Txt K mg) {f : Addr} {fd : FuncData} (D : C8.Def K mg "_law_same" s_law_same f fd) (b : Binds K fd ["_law_found", "_law_due"] []) : ∀ n : Nat, C8.Cal P w K mg base n "_law_same" (sp_same K n) []
  | 0 => ⟨f, fd, ["_law_found", "_law_due"], [], ⟨fun _ _ _ _ h => h.elim, fun _ _ _ _ _ _ _ _ _ _ _ _ _ h => h.elim⟩, D.mgf, D.kp, b, .nil⟩
  | n + 1 => same_step T D b (ok_same T D b n)
theorem use_same {n : Nat} {x y : V} {d : PyData} {H : Hp} {Q : VK} {E : XK} (hx : Dp K H x d) (hy : Dp K H y d) (ok : OkD n d) (k : ∀ H', Same H H' → Q (.bl true) H') : sp_same K (n + 1) ([x, y] ++ []) H Q E := ⟨x, y, d, rfl, hx, hy, ok, k⟩
end
end K03
namespace K03
open PySem PySem.Spec PyProof.Rows L2 Wd
section
variable {P : Program} {w : World} {K : PySem.W.Frag} {mg : Str → Option Value} {base : Heap}
mutual
theorem okP_up : ∀ (p : Pl) (d l : Nat), okP d l p → okP (d + 1) l p
  | .pat, d, l, h => by unfold okP; trivial
  | .work _ _, d, l, h => by unfold okP at h ⊢; exact h
  | .row ps, 0, l, h => by unfold okP at h; exact h.elim
  | .row ps, d + 1, l, h => by unfold okP at h ⊢; exact ⟨h.1, h.2.1, okPs_up ps d l h.2.2⟩
  | .either ps, 0, l, h => by unfold okP at h; exact h.elim
  | .either ps, d + 1, l, h => by unfold okP at h ⊢; exact ⟨h.1, h.2.1, okPs_up ps d l h.2.2⟩
  | .loop a b p, 0, l, h => by unfold okP at h; exact h.elim
  | .loop a b p, d + 1, 0, h => by unfold okP at h; exact h.elim
  | .loop a b p, d + 1, l + 1, h => by unfold okP at h ⊢; exact ⟨h.1, h.2.1, h.2.2.1, okP_up p d l h.2.2.2⟩
theorem okPs_up : ∀ (ps : List Pl) (d l : Nat), okPs d l ps → okPs (d + 1) l ps
  | [], d, l, h => by unfold okPs; trivial
  | p :: ps, d, l, h => by unfold okPs at h ⊢; exact ⟨okP_up p d l h.1, okPs_up ps d l h.2⟩
end
abbrev s_law_plan : Stmt := top 23
theorem sc_law_plan : FnScope ["_law_state", "_law_deep", "_law_loops", "_law_way", "_law_least", "_law_k", "_law_many"] ["_law_state", "_law_deep", "_law_loops"] (C8.fnScope s_law_plan) := C8.fnScope_by (by decide +kernel)
def sp_plan (K : PySem.W.Frag) : Nat → Sp
  | 0 => fun _ _ _ _ => False
  | d + 1 => fun vs H Q _ => ∃ (B : Hp) (S : Addr) (deep : Int) (l : Nat), vs = [.ref S, .int deep, .int l] ∧ Dst K B H S ∧ deep ≤ d + 1 ∧ ∀ H' v p, Frm S H H' → Dst K B H' S → PlA H' v p → okP d l p → Q v H'
theorem use_plan {d : Nat} {B H : Hp} {S : Addr} {deep z : Int} {l : Nat} {Q : VK} {E : XK} (hd : Dst K B H S) (hz : z = l) (h : deep ≤ d) (hp : 0 < d) (k : ∀ H' v p, Frm S H H' → Dst K B H' S → PlA H' v p → okP (d - 1) l p → Q v H') : sp_plan K d ([.ref S, .int deep, .int z] ++ []) H Q E := by
  subst hz
  match d, hp with
  | d + 1, _ => exact ⟨B, S, deep, l, rfl, hd, by omega, k⟩
theorem plan_step (T : Txt K mg) {d : Nat} {f : Addr} {fd : FuncData} (D : C8.Def K mg "_law_plan" s_law_plan f fd) (b : Binds K fd ["_law_state", "_law_deep", "_law_loops"] []) (g_law_drawn : C8.Cal P w K mg base 1 "_law_drawn" (sp_drawn K) [])
    (g_law_plan : C8.Cal P w K mg base (d + 1) "_law_plan" (sp_plan K d) []) : C8.Cal P w K mg base (d + 2) "_law_plan" (sp_plan K (d + 1)) [] := by
  refine C8.cal0 D b .nil sc_law_plan (fun vs H Q E h => ?_) fun cdv A outer s H vs Q E hr h => ?_
  · obtain ⟨B, S, deep, l, rfl, _⟩ := h; rfl
  · obtain ⟨B, S, deep, l, rfl, hd, hdeep, q⟩ := h
    have nd := sc_law_plan.nd
    have hr : Room (d + 1) _ := hr
    refine ⟨_, (pss_cons (ps_set (i := 3) nd rfl (Or.inl rfl) (C8.pe_c g_law_drawn hr (by first | decide | exact Nat.le_refl _ | omega) (by rfl) (pa_cons (pv 0) (pa_cons pe_int pa_nil))))
      (pss_cons (ps_if (PW.pt (pw_or (pt_cmpR op_lt (pv 1) pe_int (nomark _)) (pw_or1 (pt_cmpR op_lt (pv 3) pe_int (nomark _))))) (pss_cons (ps_set (i := 4) nd rfl (Or.inl rfl) (C8.pe_c g_law_drawn hr (by first | decide | exact Nat.le_refl _ | omega) (by rfl) (pa_cons (pv 0) (pa_cons pe_int pa_nil))))
      (pss_one (ps_ret (pe_ix (r := rIxL K) ix_list (pe_lst (pa_cons (pe_tup (pa_cons pe_str pa_nil)) (pa_cons (pe_tup (pa_cons pe_str (pa_cons (pv 4) (pa_cons (pe_op op_add (pv 4) (C8.pe_c g_law_drawn hr (by first | decide | exact Nat.le_refl _ | omega) (by rfl) (pa_cons (pv 0) (pa_cons pe_int pa_nil)))) pa_nil)))) pa_nil))) (pe_callTy call_intB (by rfl) T.n_int (by decide +kernel) (pa_cons (pe_cmpR op_gt (pe_op op_mod (pv 3) pe_int) pe_int (nomark _)) pa_nil)) (fun _ _ => rfl))))) pss_nil)
      (pss_cons (ps_if (PW.pt (pw_or (pt_cmpR op_lt (pv 3) pe_int (nomark _)) (pw_or1 (PW.pt (pw_and (pt_cmpR op_eq (pv 3) pe_int (nomark _)) (pw_and1 (pt_cmpR op_eq (pv 2) pe_int (nomark _)))))))) (pss_one (ps_ret (pe_tup (pa_cons pe_str (pa_cons (pe_callTy (r := rTupOf K) call_tuple1 (by rfl) T.n_tuple (by decide +kernel) (pa_cons (pe_lc (own := [("_law_k", 5)]) (g := gName 5) (tt := tYes) rfl nd (pi_range1 rfl T.n_range (pa_cons (pe_op op_add pe_int (C8.pe_c g_law_drawn hr (by first | decide | exact Nat.le_refl _ | omega) (by rfl) (pa_cons (pv 0) (pa_cons pe_int pa_nil)))) pa_nil)) (blkOk_by (N := ["_law_state", "_law_deep", "_law_loops", "_law_way", "_law_least", "_law_k", "_law_many"]) (sc := C8.fnScope s_law_plan) (by decide +kernel)) (fun _ _ _ _ _ => pg_name (i := 5) nd rfl (Or.inl rfl)) (fun _ _ _ _ _ => pts_nil) (fun _ _ _ _ _ => (C8.pe_c g_law_plan hr (by first | decide | exact Nat.le_refl _ | omega) (by rfl) (pa_cons (pv 0) (pa_cons (pe_op op_sub (pv 1) pe_int) (pa_cons (pv 2) pa_nil)))))) pa_nil)) pa_nil))))) pss_nil)
      (pss_cons (ps_if (pt_cmpR op_eq (pv 3) pe_int (nomark _)) (pss_cons (ps_set (i := 6) nd rfl (Or.inr rfl) (pe_op op_add pe_int (C8.pe_c g_law_drawn hr (by first | decide | exact Nat.le_refl _ | omega) (by rfl) (pa_cons (pv 0) (pa_cons (pe_ix (r := rIxL K) ix_list (pe_lst (pa_cons pe_int (pa_cons pe_int (pa_cons pe_int (pa_cons pe_int pa_nil))))) (C8.pe_c g_law_drawn hr (by first | decide | exact Nat.le_refl _ | omega) (by rfl) (pa_cons (pv 0) (pa_cons pe_int pa_nil))) (fun _ _ => rfl)) pa_nil)))))
      (pss_one (ps_ret (pe_tup (pa_cons pe_str (pa_cons (pe_callTy (r := rTupOf K) call_tuple1 (by rfl) T.n_tuple (by decide +kernel) (pa_cons (pe_lc (own := [("_law_k", 5)]) (g := gName 5) (tt := tYes) rfl nd (pi_range1 rfl T.n_range (pa_cons (pv 6) pa_nil)) (blkOk_by (N := ["_law_state", "_law_deep", "_law_loops", "_law_way", "_law_least", "_law_k", "_law_many"]) (sc := C8.fnScope s_law_plan) (by decide +kernel)) (fun _ _ _ _ _ => pg_name (i := 5) nd rfl (Or.inl rfl)) (fun _ _ _ _ _ => pts_nil) (fun _ _ _ _ _ => (C8.pe_c g_law_plan hr (by first | decide | exact Nat.le_refl _ | omega) (by rfl) (pa_cons (pv 0) (pa_cons (pe_op op_sub (pe_op op_sub (pv 1) pe_int) (pe_callTy call_intB (by rfl) T.n_int (by decide +kernel) (pa_cons (pe_cmpR op_gt (pv 6) pe_int (nomark _)) pa_nil))) (pa_cons (pv 2) pa_nil)))))) pa_nil)) pa_nil)))))) pss_nil)
      (pss_cons (ps_set (i := 4) nd rfl (Or.inl rfl) (C8.pe_c g_law_drawn hr (by first | decide | exact Nat.le_refl _ | omega) (by rfl) (pa_cons (pv 0) (pa_cons (pe_ix (r := rIxL K) ix_list (pe_lst (pa_cons pe_int (pa_cons pe_int (pa_cons pe_int (pa_cons pe_int pa_nil))))) (C8.pe_c g_law_drawn hr (by first | decide | exact Nat.le_refl _ | omega) (by rfl) (pa_cons (pv 0) (pa_cons pe_int pa_nil))) (fun _ _ => rfl)) pa_nil))))
      (pss_one (ps_ret (pe_tup (pa_cons pe_str (pa_cons (pv 4) (pa_cons (pe_op op_add (pv 4) (C8.pe_c g_law_drawn hr (by first | decide | exact Nat.le_refl _ | omega) (by rfl) (pa_cons (pv 0) (pa_cons pe_int pa_nil)))) (pa_cons (C8.pe_c g_law_plan hr (by first | decide | exact Nat.le_refl _ | omega) (by rfl) (pa_cons (pv 0) (pa_cons (pe_op op_sub (pv 1) pe_int) (pa_cons (pe_op op_sub (pv 2) pe_int) pa_nil)))) pa_nil)))))))))))), ?_⟩
    walk_at "go"
    refine use_drawn (n := 9) hd (by decide) (by decide) fun H1 way f1 d1 w0 w1 => ?_
    walk_at "go"
    refine g_ite (fun hc => ?_) (fun hc => ?_)
    · --
      walk_at "go"
      refine use_drawn (n := 4) d1 (by decide) (by decide) fun H2 a f2 d2 a0 a1 => ?_
      walk_at "go"
      intro q1 hq1
      have d3 := d2.same (same_new (o := .tup [.str "pat"]) hq1)
      have L3 := Live.new (o := .tup [.str "pat"]) (L := []) Live.nil hq1 d2.has
      walk_at "go"
      refine use_drawn (n := 3) d3 (by decide) (by decide) fun H4 c f4 d4 c0 c1 => ?_
      have L4 := L3.frm f4
      walk_at "go"
      intro q2 hq2
      have d5 := d4.same (same_new (o := .tup [.str "work", .int a, .int (a + c)]) hq2)
      have L5 := L4.new (o := .tup [.str "work", .int a, .int (a + c)]) hq2 d4.has
      walk_at "go"
      intro l hl
      have d6 := d5.same (same_new (o := .lst [.ref q1, .ref q2]) hl)
      have L6 := L5.new (o := .lst [.ref q1, .ref q2]) hl d5.has
      walk_at "go"
      refine g_I (show (0 : Int) < 5 by decide) ?_
      walk_at "go"
      have fr : Frm S H _ := ((((f1.trans f2).trans (.new hq1)).trans f4).trans (.new hq2)).trans (.new (o := .lst [.ref q1, .ref q2]) hl)
      by_cases hw : way % 5 > 1
      · refine g_ixL (v := .ref q2) (SqL.of upd_same) (by rw [show decide (1 < way % 5) = true from decide_eq_true hw]; rfl) ?_
        exact q _ _ (.work a (a + c)) fr d6 (.work (L6.get 1 rfl)) (by unfold okP; exact ⟨a0, by omega, by omega⟩)
      · refine g_ixL (v := .ref q1) (SqL.of upd_same) (by rw [show decide (1 < way % 5) = false from decide_eq_false hw]; rfl) ?_
        exact q _ _ .pat fr d6 (.pat (L6.get 2 rfl)) (by unfold okP; trivial)
    · walk_at "go"
      refine g_ite (fun hc2 => ?_) (fun hc2 => ?_)
      · --
        walk_at "go"
        refine use_drawn (n := 4) d1 (by decide) (by decide) fun H2 a f2 d2 a0 a1 => ?_
        walk_at "go"
        intro q1 hq1
        have d3 := d2.same (same_new (o := .tup [.str "pat"]) hq1)
        have L3 := Live.new (o := .tup [.str "pat"]) (L := []) Live.nil hq1 d2.has
        walk_at "go"
        refine use_drawn (n := 3) d3 (by decide) (by decide) fun H4 c f4 d4 c0 c1 => ?_
        have L4 := L3.frm f4
        walk_at "go"
        intro q2 hq2
        have d5 := d4.same (same_new (o := .tup [.str "work", .int a, .int (a + c)]) hq2)
        have L5 := L4.new (o := .tup [.str "work", .int a, .int (a + c)]) hq2 d4.has
        walk_at "go"
        intro l hl
        have d6 := d5.same (same_new (o := .lst [.ref q1, .ref q2]) hl)
        have L6 := L5.new (o := .lst [.ref q1, .ref q2]) hl d5.has
        walk_at "go"
        refine g_I (show (0 : Int) < 5 by decide) ?_
        walk_at "go"
        have fr : Frm S H _ := ((((f1.trans f2).trans (.new hq1)).trans f4).trans (.new hq2)).trans (.new (o := .lst [.ref q1, .ref q2]) hl)
        by_cases hw : way % 5 > 1
        · refine g_ixL (v := .ref q2) (SqL.of upd_same) (by rw [show decide (1 < way % 5) = true from decide_eq_true hw]; rfl) ?_
          exact q _ _ (.work a (a + c)) fr d6 (.work (L6.get 1 rfl)) (by unfold okP; exact ⟨a0, by omega, by omega⟩)
        · refine g_ixL (v := .ref q1) (SqL.of upd_same) (by rw [show decide (1 < way % 5) = false from decide_eq_false hw]; rfl) ?_
          exact q _ _ .pat fr d6 (.pat (L6.get 2 rfl)) (by unfold okP; trivial)
      · have dpos : 0 < d := by omega
        obtain ⟨d, rfl⟩ : ∃ d', d = d' + 1 := ⟨d - 1, by omega⟩
        walk_at "go"
        refine g_ite (fun h7 => ?_) (fun h7 => ?_)
        · --
          walk_at "go"
          refine use_drawn (n := 3) d1 (by decide) (by decide) fun H2 c f2 d2 c0 c1 => ?_
          have f12 := f1.trans f2
          walk_at "go"
          refine w_lcRange (by omega) (by omega) (fun D i H' => ∃ (vs : List V) (ps : List Pl), Frm S H H' ∧ Dst K B H' S ∧ H' D = some (.lst vs) ∧ PlAs H' vs ps ∧ okPs d l ps ∧ ps.length = i) ?_ ?_ ?_
          · intro D hD
            exact ⟨[], [], f12.trans (.new hD), d2.same (same_new hD), upd_same, .nil, by unfold okPs; trivial, rfl⟩
          · rintro D i H5 hD hi ⟨vs, ps, f5, d5, e5, p5, o5, l5⟩
            have nD := d2.ne hD
            have hD0 := f12.back nD hD
            walk_at "go"
            refine ⟨rfl, ?_⟩
            walk_at "go"
            refine use_plan d5 rfl (by omega) (by omega) fun H6 v p f6 d6 pv po => ?_
            walk_at "go"
            have e6 := f6 _ _ nD e5
            refine ⟨vs, e6, small_lt (by rw [p5.len, l5]; omega), ?_⟩
            exact ⟨vs ++ [v], ps ++ [p], (f5.trans f6).mut hD0, d6.mut nD (d2.fresh hD), upd_same, (PlAs_keep ((keepT_frm d5 f6).trans (keepT_lst e6)) _ _ p5).snoc (PlA_keep (keepT_lst e6) _ _ pv), okPs_snoc o5 po, by rw [List.length_append, l5]; rfl⟩
          · rintro D H5 hD ⟨vs, ps, f5, d5, e5, p5, o5, l5⟩
            walk_at "go"
            refine g_tupOf (SqL.of e5) ?_
            intro t ht
            have d6 := d5.same (same_new (o := .tup vs) ht)
            walk_at "go"
            intro r hr
            exact q _ _ (.row ps) ((f5.trans (.new ht)).trans (.new hr)) (d6.same (same_new hr)) (.row upd_same (same_new hr _ _ upd_same) (PlAs_keep ((keepT_new ht).trans (keepT_new hr)) _ _ p5)) (by unfold okP; exact ⟨by omega, by omega, o5⟩)
        · walk_at "go"
          refine g_ite (fun h8 => ?_) (fun h8 => ?_)
          · walk_at "go"
            refine g_ite (fun h0 => ?_) (fun h0 => ?_)
            · --
              walk_at "go"
              refine use_drawn (n := 3) d1 (by decide) (by decide) fun H2 c f2 d2 c0 c1 => ?_
              have f12 := f1.trans f2
              walk_at "go"
              refine w_lcRange (by omega) (by omega) (fun D i H' => ∃ (vs : List V) (ps : List Pl), Frm S H H' ∧ Dst K B H' S ∧ H' D = some (.lst vs) ∧ PlAs H' vs ps ∧ okPs d l ps ∧ ps.length = i) ?_ ?_ ?_
              · intro D hD
                exact ⟨[], [], f12.trans (.new hD), d2.same (same_new hD), upd_same, .nil, by unfold okPs; trivial, rfl⟩
              · rintro D i H5 hD hi ⟨vs, ps, f5, d5, e5, p5, o5, l5⟩
                have nD := d2.ne hD
                have hD0 := f12.back nD hD
                walk_at "go"
                refine ⟨rfl, ?_⟩
                walk_at "go"
                refine use_plan d5 rfl (by omega) (by omega) fun H6 v p f6 d6 pv po => ?_
                walk_at "go"
                have e6 := f6 _ _ nD e5
                refine ⟨vs, e6, small_lt (by rw [p5.len, l5]; omega), ?_⟩
                exact ⟨vs ++ [v], ps ++ [p], (f5.trans f6).mut hD0, d6.mut nD (d2.fresh hD), upd_same, (PlAs_keep ((keepT_frm d5 f6).trans (keepT_lst e6)) _ _ p5).snoc (PlA_keep (keepT_lst e6) _ _ pv), okPs_snoc o5 po, by rw [List.length_append, l5]; rfl⟩
              · rintro D H5 hD ⟨vs, ps, f5, d5, e5, p5, o5, l5⟩
                walk_at "go"
                refine g_tupOf (SqL.of e5) ?_
                intro t ht
                have d6 := d5.same (same_new (o := .tup vs) ht)
                walk_at "go"
                intro r hr
                exact q _ _ (.row ps) ((f5.trans (.new ht)).trans (.new hr)) (d6.same (same_new hr)) (.row upd_same (same_new hr _ _ upd_same) (PlAs_keep ((keepT_new ht).trans (keepT_new hr)) _ _ p5)) (by unfold okP; exact ⟨by omega, by omega, o5⟩)
            · --
              walk_at "go"
              refine g_ite (fun h9 => ?_) (fun h9 => ?_)
              · walk_at "go"
                intro l1 hl1
                have d2 := d1.same (same_new (o := .lst [.int 3, .int 3, .int 3, .int 10]) hl1)
                walk_at "go"
                refine use_drawn (n := 4) d2 (by decide) (by decide) fun H3 a f3 d3 a0 a1 => ?_
                have e3 := f3 _ _ (d1.ne hl1) upd_same
                obtain ⟨x, hx, hx2⟩ := atI_mem (xs := [.int 3, .int 3, .int 3, .int 10]) a0 a1
                refine g_ixL (SqL.of e3) hx2 ?_
                obtain ⟨n, rfl, n0, n1⟩ : ∃ z, x = V.int z ∧ 0 < z ∧ z ≤ 10 := by
                  simp only [List.mem_cons, List.not_mem_nil, or_false] at hx
                  rcases hx with rfl | rfl | rfl | rfl <;> exact ⟨_, rfl, by decide, by decide⟩
                walk_at "go"
                refine use_drawn d3 n0 (by omega) fun H4 c f4 d4 c0 c1 => ?_
                have f14 := ((f1.trans (.new hl1)).trans f3).trans f4
                walk_at "go"
                refine w_lcRange (by omega) (by omega) (fun D i H' => ∃ (vs : List V) (ps : List Pl), Frm S H H' ∧ Dst K B H' S ∧ H' D = some (.lst vs) ∧ PlAs H' vs ps ∧ okPs d l ps ∧ ps.length = i) ?_ ?_ ?_
                · intro D hD
                  exact ⟨[], [], f14.trans (.new hD), d4.same (same_new hD), upd_same, .nil, by unfold okPs; trivial, rfl⟩
                · rintro D i H5 hD hi ⟨vs, ps, f5, d5, e5, p5, o5, l5⟩
                  have nD := d4.ne hD
                  have hD0 := f14.back nD hD
                  walk_at "go"
                  refine ⟨rfl, ?_⟩
                  walk_at "go"
                  refine use_plan d5 rfl (by split <;> omega) (by omega) fun H6 v p f6 d6 pv po => ?_
                  walk_at "go"
                  have e6 := f6 _ _ nD e5
                  refine ⟨vs, e6, small_lt (by rw [p5.len, l5]; omega), ?_⟩
                  exact ⟨vs ++ [v], ps ++ [p], (f5.trans f6).mut hD0, d6.mut nD (d4.fresh hD), upd_same, (PlAs_keep ((keepT_frm d5 f6).trans (keepT_lst e6)) _ _ p5).snoc (PlA_keep (keepT_lst e6) _ _ pv), okPs_snoc o5 po, by rw [List.length_append, l5]; rfl⟩
                · rintro D H5 hD ⟨vs, ps, f5, d5, e5, p5, o5, l5⟩
                  walk_at "go"
                  refine g_tupOf (SqL.of e5) ?_
                  intro t ht
                  have d6 := d5.same (same_new (o := .tup vs) ht)
                  walk_at "go"
                  intro r hr
                  exact q _ _ (.either ps) ((f5.trans (.new ht)).trans (.new hr)) (d6.same (same_new hr)) (.either upd_same (same_new hr _ _ upd_same) (PlAs_keep ((keepT_new ht).trans (keepT_new hr)) _ _ p5)) (by unfold okP; exact ⟨by omega, by omega, o5⟩)
              · walk_at "go"
                intro l1 hl1
                have d2 := d1.same (same_new (o := .lst [.int 2, .int 2, .int 2, .int 9]) hl1)
                walk_at "go"
                refine use_drawn (n := 4) d2 (by decide) (by decide) fun H3 a f3 d3 a0 a1 => ?_
                have e3 := f3 _ _ (d1.ne hl1) upd_same
                obtain ⟨x, hx, hx2⟩ := atI_mem (xs := [.int 2, .int 2, .int 2, .int 9]) a0 a1
                refine g_ixL (SqL.of e3) hx2 ?_
                obtain ⟨n, rfl, n0, n1⟩ : ∃ z, x = V.int z ∧ 0 < z ∧ z ≤ 9 := by
                  simp only [List.mem_cons, List.not_mem_nil, or_false] at hx
                  rcases hx with rfl | rfl | rfl | rfl <;> exact ⟨_, rfl, by decide, by decide⟩
                walk_at "go"
                refine use_drawn d3 n0 (by omega) fun H4 c f4 d4 c0 c1 => ?_
                walk_at "go"
                refine use_drawn (n := 2) d4 (by decide) (by decide) fun H5 g f5 d5 g0 g1 => ?_
                walk_at "go"
                have lpos : 0 < l := by omega
                obtain ⟨l, rfl⟩ : ∃ l', l = l' + 1 := ⟨l - 1, by omega⟩
                refine use_plan (l := l) d5 (by omega) (by omega) (by omega) fun H6 v p f6 d6 pv po => ?_
                walk_at "go"
                intro r hr
                exact q _ _ (.loop c (c + g) p) ((((((f1.trans (.new hl1)).trans f3).trans f4).trans f5).trans f6).trans (.new hr)) (d6.same (same_new hr)) (.loop upd_same (PlA_keep (keepT_new hr) _ _ pv)) (by unfold okP; exact ⟨c0, by omega, by omega, po⟩)
          · --
            walk_at "go"
            refine g_ite (fun h9 => ?_) (fun h9 => ?_)
            · walk_at "go"
              intro l1 hl1
              have d2 := d1.same (same_new (o := .lst [.int 3, .int 3, .int 3, .int 10]) hl1)
              walk_at "go"
              refine use_drawn (n := 4) d2 (by decide) (by decide) fun H3 a f3 d3 a0 a1 => ?_
              have e3 := f3 _ _ (d1.ne hl1) upd_same
              obtain ⟨x, hx, hx2⟩ := atI_mem (xs := [.int 3, .int 3, .int 3, .int 10]) a0 a1
              refine g_ixL (SqL.of e3) hx2 ?_
              obtain ⟨n, rfl, n0, n1⟩ : ∃ z, x = V.int z ∧ 0 < z ∧ z ≤ 10 := by
                simp only [List.mem_cons, List.not_mem_nil, or_false] at hx
                rcases hx with rfl | rfl | rfl | rfl <;> exact ⟨_, rfl, by decide, by decide⟩
              walk_at "go"
              refine use_drawn d3 n0 (by omega) fun H4 c f4 d4 c0 c1 => ?_
              have f14 := ((f1.trans (.new hl1)).trans f3).trans f4
              walk_at "go"
              refine w_lcRange (by omega) (by omega) (fun D i H' => ∃ (vs : List V) (ps : List Pl), Frm S H H' ∧ Dst K B H' S ∧ H' D = some (.lst vs) ∧ PlAs H' vs ps ∧ okPs d l ps ∧ ps.length = i) ?_ ?_ ?_
              · intro D hD
                exact ⟨[], [], f14.trans (.new hD), d4.same (same_new hD), upd_same, .nil, by unfold okPs; trivial, rfl⟩
              · rintro D i H5 hD hi ⟨vs, ps, f5, d5, e5, p5, o5, l5⟩
                have nD := d4.ne hD
                have hD0 := f14.back nD hD
                walk_at "go"
                refine ⟨rfl, ?_⟩
                walk_at "go"
                refine use_plan d5 rfl (by split <;> omega) (by omega) fun H6 v p f6 d6 pv po => ?_
                walk_at "go"
                have e6 := f6 _ _ nD e5
                refine ⟨vs, e6, small_lt (by rw [p5.len, l5]; omega), ?_⟩
                exact ⟨vs ++ [v], ps ++ [p], (f5.trans f6).mut hD0, d6.mut nD (d4.fresh hD), upd_same, (PlAs_keep ((keepT_frm d5 f6).trans (keepT_lst e6)) _ _ p5).snoc (PlA_keep (keepT_lst e6) _ _ pv), okPs_snoc o5 po, by rw [List.length_append, l5]; rfl⟩
              · rintro D H5 hD ⟨vs, ps, f5, d5, e5, p5, o5, l5⟩
                walk_at "go"
                refine g_tupOf (SqL.of e5) ?_
                intro t ht
                have d6 := d5.same (same_new (o := .tup vs) ht)
                walk_at "go"
                intro r hr
                exact q _ _ (.either ps) ((f5.trans (.new ht)).trans (.new hr)) (d6.same (same_new hr)) (.either upd_same (same_new hr _ _ upd_same) (PlAs_keep ((keepT_new ht).trans (keepT_new hr)) _ _ p5)) (by unfold okP; exact ⟨by omega, by omega, o5⟩)
            · walk_at "go"
              intro l1 hl1
              have d2 := d1.same (same_new (o := .lst [.int 2, .int 2, .int 2, .int 9]) hl1)
              walk_at "go"
              refine use_drawn (n := 4) d2 (by decide) (by decide) fun H3 a f3 d3 a0 a1 => ?_
              have e3 := f3 _ _ (d1.ne hl1) upd_same
              obtain ⟨x, hx, hx2⟩ := atI_mem (xs := [.int 2, .int 2, .int 2, .int 9]) a0 a1
              refine g_ixL (SqL.of e3) hx2 ?_
              obtain ⟨n, rfl, n0, n1⟩ : ∃ z, x = V.int z ∧ 0 < z ∧ z ≤ 9 := by
                simp only [List.mem_cons, List.not_mem_nil, or_false] at hx
                rcases hx with rfl | rfl | rfl | rfl <;> exact ⟨_, rfl, by decide, by decide⟩
              walk_at "go"
              refine use_drawn d3 n0 (by omega) fun H4 c f4 d4 c0 c1 => ?_
              walk_at "go"
              refine use_drawn (n := 2) d4 (by decide) (by decide) fun H5 g f5 d5 g0 g1 => ?_
              walk_at "go"
              have lpos : 0 < l := by omega
              obtain ⟨l, rfl⟩ : ∃ l', l = l' + 1 := ⟨l - 1, by omega⟩
              refine use_plan (l := l) d5 (by omega) (by omega) (by omega) fun H6 v p f6 d6 pv po => ?_
              walk_at "go"
              intro r hr
              exact q _ _ (.loop c (c + g) p) ((((((f1.trans (.new hl1)).trans f3).trans f4).trans f5).trans f6).trans (.new hr)) (d6.same (same_new hr)) (.loop upd_same (PlA_keep (keepT_new hr) _ _ pv)) (by unfold okP; exact ⟨c0, by omega, by omega, po⟩)
end
end K03
namespace K03
open PySem PySem.Spec PyProof.Rows L2 Wd
section
variable {P : Program} {w : World} {K : PySem.W.Frag} {mg : Str → Option Value} {base : Heap}
theorem ok_plan (T : Txt K mg) {f : Addr} {fd : FuncData} (D : C8.Def K mg "_law_plan" s_law_plan f fd) (b : Binds K fd ["_law_state", "_law_deep", "_law_loops"] []) (g_law_drawn : C8.Cal P w K mg base 1 "_law_drawn" (sp_drawn K) []) : ∀ n : Nat, C8.Cal P w K mg base (n + 1) "_law_plan" (sp_plan K n) []
  | 0 => ⟨f, fd, ["_law_state", "_law_deep", "_law_loops"], [], ⟨fun _ _ _ _ h => h.elim, fun _ _ _ _ _ _ _ _ _ _ _ _ _ h => h.elim⟩, D.mgf, D.kp, b, .nil⟩
  | n + 1 => plan_step T D b g_law_drawn (ok_plan T D b g_law_drawn n)

theorem cnts_sum : ∀ ps : List Pl, (ps.map fun p => (cnt p : Int)).sum = (cnts ps : Int)
  | [] => by unfold cnts; rfl
  | p :: ps => by
    have ih := cnts_sum ps
    rw [List.map_cons, List.sum_cons, ih]
    simp only [Wd.cnts]
    omega
theorem take_snoc {α : Type} {l : List α} {i : Nat} {x : α} (h : l[i]? = some x) : l.take (i + 1) = l.take i ++ [x] := by
  rw [List.take_succ, h]; rfl
abbrev s_law_count : Stmt := top 24
theorem sc_law_count : FnScope ["_law_plan_here", "_law_part"] ["_law_plan_here"] (C8.fnScope s_law_count) := C8.fnScope_by (by decide +kernel)
def sp_count (K : PySem.W.Frag) : Nat → Sp
  | 0 => fun _ _ _ _ => False
  | d + 1 => fun vs H Q _ => ∃ (v : V) (p : Pl) (l : Nat), vs = [v] ∧ PlA H v p ∧ okP d l p ∧ ∀ H', Same H H' → Q (.int (cnt p)) H'
theorem use_count {d : Nat} {H : Hp} {v : V} {p : Pl} {l : Nat} {Q : VK} {E : XK} (hp : PlA H v p) (ok : okP d l p) (k : ∀ H', Same H H' → Q (.int (cnt p)) H') : sp_count K (d + 1) ([v] ++ []) H Q E := ⟨v, p, l, rfl, hp, ok, k⟩
theorem count_step (T : Txt K mg) {d : Nat} {f : Addr} {fd : FuncData} (D : C8.Def K mg "_law_count" s_law_count f fd) (b : Binds K fd ["_law_plan_here"] [])
    (g_law_count : C8.Cal P w K mg base d "_law_count" (sp_count K d) []) : C8.Cal P w K mg base (d + 1) "_law_count" (sp_count K (d + 1)) [] := by
  refine C8.cal0 D b .nil sc_law_count (fun vs H Q E h => ?_) fun cdv A outer s H vs Q E hr h => ?_
  · obtain ⟨v, p, l, rfl, _⟩ := h; rfl
  · obtain ⟨v, p, l, rfl, hp, ok, q⟩ := h
    have nd := sc_law_count.nd
    have hr : Room d _ := hr
    refine ⟨_, (pss_cons (ps_if (pt_cmpR (r := rIn K false) op_in_seq (pe_ix (r := rIxT K) ix_tup (pv 0) pe_int (fun _ _ => rfl)) (pe_tup (pa_cons pe_str (pa_cons pe_str pa_nil))) (by with_unfolding_all rfl)) (pss_one (ps_ret (pe_op op_add pe_int (pe_callB (r := rSum K) (cr_sum rfl) (by rfl) T.n_sum (by decide +kernel) (pa_cons (pe_lc (own := [("_law_part", 1)]) (g := gName 1) (tt := tYes) rfl nd (pi_tup (pe_ix (r := rIxT K) ix_tup (pv 0) pe_int (fun _ _ => rfl))) (blkOk_by (N := ["_law_plan_here", "_law_part"]) (sc := C8.fnScope s_law_count) (by decide +kernel)) (fun _ _ _ _ _ => pg_name (i := 1) nd rfl (Or.inl rfl)) (fun _ _ _ _ _ => pts_nil) (fun _ _ _ _ _ => (C8.pe_c g_law_count hr (by first | decide | exact Nat.le_refl _ | omega) (by rfl) (pa_cons (pv 1) pa_nil)))) pa_nil))))) pss_nil)
      (pss_one (ps_ret (pe_op op_add pe_int (pe_ifExp (pt_cmpR op_eq (pe_ix (r := rIxT K) ix_tup (pv 0) pe_int (fun _ _ => rfl)) pe_str (nomark _)) (C8.pe_c g_law_count hr (by first | decide | exact Nat.le_refl _ | omega) (by rfl) (pa_cons (pe_ix (r := rIxT K) ix_tup (pv 0) pe_int (fun _ _ => rfl)) pa_nil)) pe_int))))), ?_⟩
    -- the parts of a row or an either, counted
    cases hp with
    | pat ha =>
      walk_at "go"
      refine g_ixT (SqT.of ha) rfl ?_
      walk_at "go"
      intro t ht
      have s1 := same_new (o := .tup [.str "row", .str "either"]) ht
      refine g_inT (SqT.of upd_same) rfl rfl ?_
      walk_at "go"
      refine g_ixT (SqT.of (s1 _ _ ha)) rfl ?_
      walk_at "go"
      exact q _ s1
    | work ha =>
      walk_at "go"
      refine g_ixT (SqT.of ha) rfl ?_
      walk_at "go"
      intro t ht
      have s1 := same_new (o := .tup [.str "row", .str "either"]) ht
      refine g_inT (SqT.of upd_same) rfl rfl ?_
      walk_at "go"
      refine g_ixT (SqT.of (s1 _ _ ha)) rfl ?_
      walk_at "go"
      exact q _ s1
    | @loop a x y u p ha hu =>
      match d, ok with
      | 0, ok => unfold okP at ok; exact ok.elim
      | d + 1, ok =>
      match l, ok with
      | 0, ok => unfold okP at ok; exact ok.elim
      | l + 1, ok =>
      unfold okP at ok
      walk_at "go"
      refine g_ixT (SqT.of ha) rfl ?_
      walk_at "go"
      intro t ht
      have s1 := same_new (o := .tup [.str "row", .str "either"]) ht
      refine g_inT (SqT.of upd_same) rfl rfl ?_
      walk_at "go"
      refine g_ixT (SqT.of (s1 _ _ ha)) rfl ?_
      walk_at "go"
      refine g_ixT (SqT.of (s1 _ _ ha)) rfl ?_
      walk_at "go"
      refine use_count (PlA_keep (keepT_same s1) _ _ hu) ok.2.2.2 fun H2 s2 => ?_
      walk_at "go"
      have e : (cnt (.loop x y p) : Int) = 1 + cnt p := by simp only [Wd.cnt]; omega
      rw [e] at q
      exact q _ (s1.trans s2)
    | @row a c vs ps ha hc hps =>
      match d, ok with
      | 0, ok => unfold okP at ok; exact ok.elim
      | d + 1, ok =>
      unfold okP at ok
      walk_at "go"
      refine g_ixT (SqT.of ha) rfl ?_
      walk_at "go"
      intro t ht
      have s1 := same_new (o := .tup [.str "row", .str "either"]) ht
      refine g_inT (SqT.of upd_same) rfl rfl ?_
      walk_at "go"
      refine g_ixT (SqT.of (s1 _ _ ha)) rfl ?_
      have ln := hps.len
      refine w_lcTup (xs := vs) (SqT.of (s1 _ _ hc)) (fun D i H' => Same (upd H t (.tup [.str "row", .str "either"])) H' ∧ H' D = some (.lst (((ps.take i).map fun p => (cnt p : Int)).map V.int))) ?_ ?_ ?_ ?_
      · intro D hD
        exact ⟨same_new hD, upd_same⟩
      · rintro D i H' hD _ ⟨s2, _⟩
        exact SqT.of (s2 _ _ (s1 _ _ hc))
      · rintro D i v H' hD hv ⟨s2, eD⟩
        obtain ⟨p, hp, pv⟩ := hps.at hv
        walk_at "go"
        refine ⟨rfl, ?_⟩
        walk_at "go"
        refine use_count (PlA_keep (keepT_same (s1.trans s2)) _ _ pv) (okPs_at ok.2.2 hp) fun H3 s3 => ?_
        walk_at "go"
        have hi : i < ps.length := (List.getElem?_eq_some_iff.mp hp).1
        refine ⟨_, s3 _ _ eD, small_lt (by rw [List.length_map, List.length_map, List.length_take]; omega), Same.mut (s2.trans s3) hD, ?_⟩
        rw [upd_same, take_snoc hp, List.map_append, List.map_append]; rfl
      · rintro D H' hD ⟨s2, eD⟩
        rw [ln, List.take_length] at eD
        walk_at "go"
        refine g_sum (SqL.of eD) ?_
        walk_at "go"
        rw [cnts_sum]
        have e : (cnt (.row ps) : Int) = 1 + cnts ps := by simp only [Wd.cnt]; omega
        rw [e] at q
        exact q _ (s1.trans s2)
    | @either a c vs ps ha hc hps =>
      match d, ok with
      | 0, ok => unfold okP at ok; exact ok.elim
      | d + 1, ok =>
      unfold okP at ok
      walk_at "go"
      refine g_ixT (SqT.of ha) rfl ?_
      walk_at "go"
      intro t ht
      have s1 := same_new (o := .tup [.str "row", .str "either"]) ht
      refine g_inT (SqT.of upd_same) rfl rfl ?_
      walk_at "go"
      refine g_ixT (SqT.of (s1 _ _ ha)) rfl ?_
      have ln := hps.len
      refine w_lcTup (xs := vs) (SqT.of (s1 _ _ hc)) (fun D i H' => Same (upd H t (.tup [.str "row", .str "either"])) H' ∧ H' D = some (.lst (((ps.take i).map fun p => (cnt p : Int)).map V.int))) ?_ ?_ ?_ ?_
      · intro D hD
        exact ⟨same_new hD, upd_same⟩
      · rintro D i H' hD _ ⟨s2, _⟩
        exact SqT.of (s2 _ _ (s1 _ _ hc))
      · rintro D i v H' hD hv ⟨s2, eD⟩
        obtain ⟨p, hp, pv⟩ := hps.at hv
        walk_at "go"
        refine ⟨rfl, ?_⟩
        walk_at "go"
        refine use_count (PlA_keep (keepT_same (s1.trans s2)) _ _ pv) (okPs_at ok.2.2 hp) fun H3 s3 => ?_
        walk_at "go"
        have hi : i < ps.length := (List.getElem?_eq_some_iff.mp hp).1
        refine ⟨_, s3 _ _ eD, small_lt (by rw [List.length_map, List.length_map, List.length_take]; omega), Same.mut (s2.trans s3) hD, ?_⟩
        rw [upd_same, take_snoc hp, List.map_append, List.map_append]; rfl
      · rintro D H' hD ⟨s2, eD⟩
        rw [ln, List.take_length] at eD
        walk_at "go"
        refine g_sum (SqL.of eD) ?_
        walk_at "go"
        rw [cnts_sum]
        have e : (cnt (.either ps) : Int) = 1 + cnts ps := by simp only [Wd.cnt]; omega
        rw [e] at q
        exact q _ (s1.trans s2)
end
end K03
namespace K03
open PySem PySem.Spec PyProof.Rows L2 Wd
section
variable {P : Program} {w : World} {K : PySem.W.Frag} {mg : Str → Option Value} {base : Heap}
theorem ok_count (T : Txt K mg) {f : Addr} {fd : FuncData} (D : C8.Def K mg "_law_count" s_law_count f fd) (b : Binds K fd ["_law_plan_here"] []) : ∀ n : Nat, C8.Cal P w K mg base n "_law_count" (sp_count K n) []
  | 0 => ⟨f, fd, ["_law_plan_here"], [], ⟨fun _ _ _ _ h => h.elim, fun _ _ _ _ _ _ _ _ _ _ _ _ _ h => h.elim⟩, D.mgf, D.kp, b, .nil⟩
  | n + 1 => count_step T D b (ok_count T D b n)

abbrev s_law_good : Stmt := top 25
theorem sc_law_good : FnScope ["_law_state", "_law_deep", "_law_loops", "_law_plan_here"] ["_law_state", "_law_deep", "_law_loops"] (C8.fnScope s_law_good) := C8.fnScope_by (by decide +kernel)
/-- d: one less than how deep it may be, from 1 on -/
def sp_good (K : PySem.W.Frag) (d : Nat) : Sp := fun vs H Q _ => ∃ (B : Hp) (S : Addr) (deep : Int) (l : Nat), vs = [.ref S, .int deep, .int l] ∧ Dst K B H S ∧ deep ≤ d + 2 ∧ ∀ H' v p, Frm S H H' → Dst K B H' S → PlA H' v p → okP (d + 1) l p → cnt p ≤ 30 → Q v H'
theorem ok_good (T : Txt K mg) {d : Nat} {f : Addr} {fd : FuncData} (D : C8.Def K mg "_law_good" s_law_good f fd) (b : Binds K fd ["_law_state", "_law_deep", "_law_loops"] []) (g_law_plan : C8.Cal P w K mg base (d + 3) "_law_plan" (sp_plan K (d + 2)) [])
    (g_law_count : C8.Cal P w K mg base (d + 2) "_law_count" (sp_count K (d + 2)) []) : C8.Cal P w K mg base (d + 4) "_law_good" (sp_good K d) [] := by
  refine C8.cal0 D b .nil sc_law_good (fun vs H Q E h => ?_) fun cdv A outer s H vs Q E hr h => ?_
  · obtain ⟨B, S, deep, l, rfl, _⟩ := h; rfl
  · obtain ⟨B, S, deep, l, rfl, hd, hdeep, q⟩ := h
    have nd := sc_law_good.nd
    have hr : Room (d + 3) _ := hr
    refine ⟨_, (pss_cons (ps_set (i := 3) nd rfl (Or.inl rfl) (C8.pe_c g_law_plan hr (by first | decide | exact Nat.le_refl _ | omega) (by rfl) (pa_cons (pv 0) (pa_cons (pv 1) (pa_cons (pv 2) pa_nil)))))
      (pss_one (ps_ret (pe_ifExp (pt_cmpR op_le (C8.pe_c g_law_count hr (by first | decide | exact Nat.le_refl _ | omega) (by rfl) (pa_cons (pv 3) pa_nil)) pe_int (nomark _)) (pv 3) (pe_tup (pa_cons pe_str (pa_cons (pe_tup (pa_cons (pe_tup (pa_cons pe_str (pa_cons pe_int (pa_cons pe_int pa_nil)))) (pa_cons (pe_tup (pa_cons pe_str pa_nil)) pa_nil))) pa_nil))))))), ?_⟩
    walk_at "go"
    refine use_plan hd rfl (by omega) (by omega) fun H1 v p f1 d1 pv po => ?_
    walk_at "go"
    refine use_count (d := d + 1) pv po fun H2 s2 => ?_
    have d2 := d1.same s2
    walk_at "go"
    refine g_ite (fun hc => ?_) (fun hc => ?_)
    · walk_at "go"
      exact q _ _ p (f1.trans (.of s2)) d2 (PlA_keep (keepT_same s2) _ _ pv) po (by omega)
    · walk_at "go"
      intro a ha
      have d3 := d2.same (same_new (o := .tup [.str "work", .int 1, .int 2]) ha)
      have L3 := Live.new (L := []) (o := .tup [.str "work", .int 1, .int 2]) Live.nil ha d2.has
      walk_at "go"
      intro c hc2
      have d4 := d3.same (same_new (o := .tup [.str "pat"]) hc2)
      have L4 := L3.new (o := .tup [.str "pat"]) hc2 d3.has
      walk_at "go"
      intro e he
      have d5 := d4.same (same_new (o := .tup [.ref a, .ref c]) he)
      have L5 := L4.new (o := .tup [.ref a, .ref c]) he d4.has
      walk_at "go"
      intro g hg
      have d6 := d5.same (same_new (o := .tup [.str "row", .ref e]) hg)
      have L6 := L5.new (o := .tup [.str "row", .ref e]) hg d5.has
      exact q _ _ (.row [.work 1 2, .pat]) (((((f1.trans (.of s2)).trans (.new ha)).trans (.new hc2)).trans (.new he)).trans (.new hg)) d6 (.row (L6.get 0 rfl) (L6.get 1 rfl) (.cons (.work (L6.get 3 rfl)) (.cons (.pat (L6.get 2 rfl)) .nil)))
        (by simp only [okP, okPs]; simp) (by decide)

theorem cnts_app : ∀ ps qs : List Pl, cnts (ps ++ qs) = cnts ps + cnts qs
  | [], qs => by simp only [List.nil_append, Wd.cnts]; omega
  | p :: ps, qs => by have ih := cnts_app ps qs; simp only [List.cons_append, Wd.cnts, ih]; omega
abbrev s_law_greater : Stmt := top 28
theorem sc_law_greater : FnScope ["_law_state", "_law_plan_here", "_law_least", "_law_part"] ["_law_state", "_law_plan_here"] (C8.fnScope s_law_greater) := C8.fnScope_by (by decide +kernel)
def sp_greater (K : PySem.W.Frag) : Nat → Sp
  | 0 => fun _ _ _ _ => False
  | d + 1 => fun vs H Q _ => ∃ (B : Hp) (S : Addr) (v : V) (p : Pl) (l : Nat), vs = [.ref S, v] ∧ Dst K B H S ∧ PlA H v p ∧ okP d l p ∧ ∀ H' v' p', Frm S H H' → Dst K B H' S → PlA H' v' p' → okP d l p' → cnt p' = cnt p → Q v' H'
theorem use_greater {d : Nat} {B H : Hp} {S : Addr} {v : V} {p : Pl} {l : Nat} {Q : VK} {E : XK} (hd : Dst K B H S) (hp : PlA H v p) (ok : okP d l p) (k : ∀ H' v' p', Frm S H H' → Dst K B H' S → PlA H' v' p' → okP d l p' → cnt p' = cnt p → Q v' H') :
    sp_greater K (d + 1) ([.ref S, v] ++ []) H Q E := ⟨B, S, v, p, l, rfl, hd, hp, ok, k⟩
theorem greater_step (T : Txt K mg) {d : Nat} {f : Addr} {fd : FuncData} (D : C8.Def K mg "_law_greater" s_law_greater f fd) (b : Binds K fd ["_law_state", "_law_plan_here"] []) (g_law_drawn : C8.Cal P w K mg base 1 "_law_drawn" (sp_drawn K) [])
    (g_law_greater : C8.Cal P w K mg base (d + 1) "_law_greater" (sp_greater K d) []) : C8.Cal P w K mg base (d + 2) "_law_greater" (sp_greater K (d + 1)) [] := by
  refine C8.cal0 D b .nil sc_law_greater (fun vs H Q E h => ?_) fun cdv A outer s H vs Q E hr h => ?_
  · obtain ⟨B, S, v, p, l, rfl, _⟩ := h; rfl
  · obtain ⟨B, S, v, p, l, rfl, hd, hp, ok, q⟩ := h
    have nd := sc_law_greater.nd
    have hr : Room (d + 1) _ := hr
    refine ⟨_, (pss_cons (ps_if (pt_cmpR op_eq (pe_ix (r := rIxT K) ix_tup (pv 1) pe_int (fun _ _ => rfl)) pe_str (nomark _)) (pss_cons (ps_set (i := 2) nd rfl (Or.inl rfl) (C8.pe_c g_law_drawn hr (by first | decide | exact Nat.le_refl _ | omega) (by rfl) (pa_cons (pv 0) (pa_cons pe_int pa_nil))))
      (pss_one (ps_ret (pe_tup (pa_cons pe_str (pa_cons (pv 2) (pa_cons (pe_op op_add (pv 2) (C8.pe_c g_law_drawn hr (by first | decide | exact Nat.le_refl _ | omega) (by rfl) (pa_cons (pv 0) (pa_cons pe_int pa_nil)))) pa_nil))))))) pss_nil)
      (pss_cons (ps_if (pt_cmpR (r := rIn K false) op_in_seq (pe_ix (r := rIxT K) ix_tup (pv 1) pe_int (fun _ _ => rfl)) (pe_tup (pa_cons pe_str (pa_cons pe_str pa_nil))) (by with_unfolding_all rfl)) (pss_one (ps_ret (pe_tup (pa_cons (pe_ix (r := rIxT K) ix_tup (pv 1) pe_int (fun _ _ => rfl)) (pa_cons (pe_callTy (r := rTupOf K) call_tuple1 (by rfl) T.n_tuple (by decide +kernel) (pa_cons (pe_lc (own := [("_law_part", 3)]) (g := gName 3) (tt := tYes) rfl nd (pi_tup (pe_ix (r := rIxT K) ix_tup (pv 1) pe_int (fun _ _ => rfl))) (blkOk_by (N := ["_law_state", "_law_plan_here", "_law_least", "_law_part"]) (sc := C8.fnScope s_law_greater) (by decide +kernel)) (fun _ _ _ _ _ => pg_name (i := 3) nd rfl (Or.inl rfl)) (fun _ _ _ _ _ => pts_nil) (fun _ _ _ _ _ => (C8.pe_c g_law_greater hr (by first | decide | exact Nat.le_refl _ | omega) (by rfl) (pa_cons (pv 0) (pa_cons (pv 3) pa_nil))))) pa_nil)) pa_nil))))) pss_nil)
      (pss_one (ps_ret (pe_ifExp (pt_cmpR op_eq (pe_ix (r := rIxT K) ix_tup (pv 1) pe_int (fun _ _ => rfl)) pe_str (nomark _)) (pe_op (r := rCatT K) op_catT (pe_slice (r := rSlT K) sl_tup (pv 1) po_none (po_some pe_int)) (pe_tup (pa_cons (C8.pe_c g_law_greater hr (by first | decide | exact Nat.le_refl _ | omega) (by rfl) (pa_cons (pv 0) (pa_cons (pe_ix (r := rIxT K) ix_tup (pv 1) pe_int (fun _ _ => rfl)) pa_nil))) pa_nil))) (pv 1)))))), ?_⟩
    cases hp with
    | pat ha =>
      walk_at "go"
      refine g_ixT (SqT.of ha) rfl ?_
      walk_at "go"
      refine g_ixT (SqT.of ha) rfl ?_
      walk_at "go"
      intro t ht
      have s1 := same_new (o := .tup [.str "row", .str "either"]) ht
      refine g_inT (SqT.of upd_same) rfl rfl ?_
      walk_at "go"
      refine g_ixT (SqT.of (s1 _ _ ha)) rfl ?_
      walk_at "go"
      exact q _ _ .pat (.of s1) (hd.same s1) (.pat (s1 _ _ ha)) ok rfl
    | work ha =>
      walk_at "go"
      refine g_ixT (SqT.of ha) rfl ?_
      walk_at "go"
      refine use_drawn (n := 900) hd (by decide) (by decide) fun H1 a f1 d1 a0 a1 => ?_
      walk_at "go"
      refine use_drawn (n := 101) d1 (by decide) (by decide) fun H2 c f2 d2 c0 c1 => ?_
      walk_at "go"
      intro t ht
      exact q _ _ (.work a (a + c)) ((f1.trans f2).trans (.new ht)) (d2.same (same_new ht)) (.work upd_same) (by unfold okP; exact ⟨a0, by omega, by omega⟩) rfl
    | @loop a x y u p ha hu =>
      match d, ok with
      | 0, ok => unfold okP at ok; exact ok.elim
      | d + 1, ok =>
      match l, ok with
      | 0, ok => unfold okP at ok; exact ok.elim
      | l + 1, ok =>
      unfold okP at ok
      walk_at "go"
      refine g_ixT (SqT.of ha) rfl ?_
      walk_at "go"
      refine g_ixT (SqT.of ha) rfl ?_
      walk_at "go"
      intro t ht
      have s1 := same_new (o := .tup [.str "row", .str "either"]) ht
      have d1 := hd.same s1
      refine g_inT (SqT.of upd_same) rfl rfl ?_
      walk_at "go"
      refine g_ixT (SqT.of (s1 _ _ ha)) rfl ?_
      walk_at "go"
      refine ⟨a, _, rfl, SqT.of (s1 _ _ ha), (by show ¬ (HT.sIx 4 0 none = 0 ∧ HT.sIx 4 4 (some 3) = 4); decide), fun t2 ht2 => ?_⟩
      have s2 := s1.trans (same_new (o := .tup (cutV [.str "loop", .int x, .int y, u] none (some 3))) ht2)
      have d2 := hd.same s2
      have e2 : upd (upd H t (.tup [.str "row", .str "either"])) t2 (.tup (cutV [.str "loop", .int x, .int y, u] none (some 3))) t2 = some (.tup [.str "loop", .int x, .int y]) := upd_same
      walk_at "go"
      refine g_ixT (SqT.of (s2 _ _ ha)) rfl ?_
      walk_at "go"
      refine use_greater d2 (PlA_keep (keepT_same s2) _ _ hu) ok.2.2.2 fun H3 v' p' f3 d3 pv po pc => ?_
      have k3 := keepT_frm d2 f3
      walk_at "go"
      intro t3 ht3
      have e3 := (keepT_new (o := .tup [v']) ht3) _ _ (k3 _ _ e2)
      walk_at "go"
      refine ⟨t2, t3, _, _, rfl, rfl, SqT.of e3, SqT.of upd_same, (fun z => nomatch z), (by show 4 ≤ sizeLine; decide), (fun z => nomatch z), fun _ t4 ht4 => ?_⟩
      exact q _ _ (.loop x y p') ((((Frm.of s2).trans f3).trans (.new ht3)).trans (.new ht4)) ((d3.same (same_new ht3)).same (same_new ht4)) (.loop upd_same (PlA_keep ((keepT_new ht3).trans (keepT_new ht4)) _ _ pv)) (by unfold okP; exact ⟨ok.1, ok.2.1, ok.2.2.1, po⟩)
        (by simp only [Wd.cnt, pc])
    | @row a c vs ps ha hc hps =>
      match d, ok with
      | 0, ok => unfold okP at ok; exact ok.elim
      | d + 1, ok =>
      unfold okP at ok
      have ln := hps.len
      walk_at "go"
      refine g_ixT (SqT.of ha) rfl ?_
      walk_at "go"
      refine g_ixT (SqT.of ha) rfl ?_
      walk_at "go"
      intro t ht
      have s1 := same_new (o := .tup [.str "row", .str "either"]) ht
      have d1 := hd.same s1
      refine g_inT (SqT.of upd_same) rfl rfl ?_
      walk_at "go"
      refine g_ixT (SqT.of (s1 _ _ ha)) rfl ?_
      walk_at "go"
      refine g_ixT (SqT.of (s1 _ _ ha)) rfl ?_
      refine w_lcTup (xs := vs) (SqT.of (s1 _ _ hc)) (fun D i H' => ∃ (us : List V) (rs : List Pl), Frm S (upd H t (.tup [.str "row", .str "either"])) H' ∧ Dst K B H' S ∧ H' D = some (.lst us) ∧ PlAs H' us rs ∧ okPs d l rs ∧ rs.length = i ∧ cnts rs = cnts (ps.take i)) ?_ ?_ ?_ ?_
      · intro D hD
        exact ⟨[], [], .new hD, d1.same (same_new hD), upd_same, .nil, by unfold okPs; trivial, rfl, rfl⟩
      · rintro D i H' hD _ ⟨us, rs, f5, _⟩
        exact SqT.of (keepT_frm d1 f5 _ _ (s1 _ _ hc))
      · rintro D i v H5 hD hv ⟨us, rs, f5, d5, e5, p5, o5, l5, c5⟩
        have nD := d1.ne hD
        obtain ⟨p, hp, pv⟩ := hps.at hv
        have hi : i < ps.length := (List.getElem?_eq_some_iff.mp hp).1
        walk_at "go"
        refine ⟨rfl, ?_⟩
        walk_at "go"
        refine use_greater d5 (PlA_keep ((keepT_same s1).trans (keepT_frm d1 f5)) _ _ pv) (okPs_at ok.2.2 hp) fun H6 v' p' f6 d6 pv' po' pc' => ?_
        walk_at "go"
        have e6 := f6 _ _ nD e5
        refine ⟨us, e6, small_lt (by rw [p5.len, l5]; omega), ?_⟩
        exact ⟨us ++ [v'], rs ++ [p'], (f5.trans f6).mut hD, d6.mut nD (d1.fresh hD), upd_same, (PlAs_keep ((keepT_frm d5 f6).trans (keepT_lst e6)) _ _ p5).snoc (PlA_keep (keepT_lst e6) _ _ pv'), okPs_snoc o5 po', by rw [List.length_append, l5]; rfl,
          by rw [take_snoc hp, cnts_app, cnts_app, c5]; simp only [Wd.cnts, pc']⟩
      · rintro D H5 hD ⟨us, rs, f5, d5, e5, p5, o5, l5, c5⟩
        rw [ln, List.take_length] at c5
        walk_at "go"
        refine g_tupOf (SqL.of e5) ?_
        intro t2 ht2
        walk_at "go"
        intro r hr
        exact q _ _ (.row rs) ((((Frm.of s1).trans f5).trans (.new ht2)).trans (.new hr)) ((d5.same (same_new ht2)).same (same_new hr)) (.row upd_same (same_new hr _ _ upd_same) (PlAs_keep ((keepT_new ht2).trans (keepT_new hr)) _ _ p5))
          (by unfold okP; rw [l5, ln]; exact ⟨ok.1, ok.2.1, o5⟩) (by simp only [Wd.cnt, c5])
    | @either a c vs ps ha hc hps =>
      match d, ok with
      | 0, ok => unfold okP at ok; exact ok.elim
      | d + 1, ok =>
      unfold okP at ok
      have ln := hps.len
      walk_at "go"
      refine g_ixT (SqT.of ha) rfl ?_
      walk_at "go"
      refine g_ixT (SqT.of ha) rfl ?_
      walk_at "go"
      intro t ht
      have s1 := same_new (o := .tup [.str "row", .str "either"]) ht
      have d1 := hd.same s1
      refine g_inT (SqT.of upd_same) rfl rfl ?_
      walk_at "go"
      refine g_ixT (SqT.of (s1 _ _ ha)) rfl ?_
      walk_at "go"
      refine g_ixT (SqT.of (s1 _ _ ha)) rfl ?_
      refine w_lcTup (xs := vs) (SqT.of (s1 _ _ hc)) (fun D i H' => ∃ (us : List V) (rs : List Pl), Frm S (upd H t (.tup [.str "row", .str "either"])) H' ∧ Dst K B H' S ∧ H' D = some (.lst us) ∧ PlAs H' us rs ∧ okPs d l rs ∧ rs.length = i ∧ cnts rs = cnts (ps.take i)) ?_ ?_ ?_ ?_
      · intro D hD
        exact ⟨[], [], .new hD, d1.same (same_new hD), upd_same, .nil, by unfold okPs; trivial, rfl, rfl⟩
      · rintro D i H' hD _ ⟨us, rs, f5, _⟩
        exact SqT.of (keepT_frm d1 f5 _ _ (s1 _ _ hc))
      · rintro D i v H5 hD hv ⟨us, rs, f5, d5, e5, p5, o5, l5, c5⟩
        have nD := d1.ne hD
        obtain ⟨p, hp, pv⟩ := hps.at hv
        have hi : i < ps.length := (List.getElem?_eq_some_iff.mp hp).1
        walk_at "go"
        refine ⟨rfl, ?_⟩
        walk_at "go"
        refine use_greater d5 (PlA_keep ((keepT_same s1).trans (keepT_frm d1 f5)) _ _ pv) (okPs_at ok.2.2 hp) fun H6 v' p' f6 d6 pv' po' pc' => ?_
        walk_at "go"
        have e6 := f6 _ _ nD e5
        refine ⟨us, e6, small_lt (by rw [p5.len, l5]; omega), ?_⟩
        exact ⟨us ++ [v'], rs ++ [p'], (f5.trans f6).mut hD, d6.mut nD (d1.fresh hD), upd_same, (PlAs_keep ((keepT_frm d5 f6).trans (keepT_lst e6)) _ _ p5).snoc (PlA_keep (keepT_lst e6) _ _ pv'), okPs_snoc o5 po', by rw [List.length_append, l5]; rfl,
          by rw [take_snoc hp, cnts_app, cnts_app, c5]; simp only [Wd.cnts, pc']⟩
      · rintro D H5 hD ⟨us, rs, f5, d5, e5, p5, o5, l5, c5⟩
        rw [ln, List.take_length] at c5
        walk_at "go"
        refine g_tupOf (SqL.of e5) ?_
        intro t2 ht2
        walk_at "go"
        intro r hr
        exact q _ _ (.either rs) ((((Frm.of s1).trans f5).trans (.new ht2)).trans (.new hr)) ((d5.same (same_new ht2)).same (same_new hr)) (.either upd_same (same_new hr _ _ upd_same) (PlAs_keep ((keepT_new ht2).trans (keepT_new hr)) _ _ p5))
          (by unfold okP; rw [l5, ln]; exact ⟨ok.1, ok.2.1, o5⟩) (by simp only [Wd.cnt, c5])
end
end K03
namespace K03
open PySem PySem.Spec PyProof.Rows L2 Wd
/-! ### a plan done: its pats, the delays left, the moment behind it -/
abbrev Res := Option (List Int × List Int × Int)
def seqR (r : Res) (k : List Int → Int → Res) : Res := match r with
  | none => none
  | some (a, ds, t) => match k ds t with
    | none => none
    | some (b, ds', t') => some (a ++ b, ds', t')
def iter (f : List Int → Int → Res) : Nat → List Int → Int → Res
  | 0, ds, t => some ([], ds, t)
  | n + 1, ds, t => seqR (f ds t) (iter f n)
mutual
def rn : Pl → List Int → Int → Res
  | .pat, ds, t => some ([t], ds, t)
  | .work _ _, [], _ => none
  | .work a b, d :: ds, t => if a ≤ d ∧ d ≤ b then some ([], ds, t + d) else none
  | .row ps, ds, t => rns ps ds t
  | .either _, [], _ => none
  | .either ps, d :: ds, t => if 0 ≤ d then rnAt ps d.toNat ds t else none
  | .loop _ _ _, [], _ => none
  | .loop a b p, d :: ds, t => if a ≤ d ∧ d ≤ b then iter (rn p) d.toNat ds t else none
def rns : List Pl → List Int → Int → Res
  | [], ds, t => some ([], ds, t)
  | p :: ps, ds, t => seqR (rn p ds t) (rns ps)
def rnAt : List Pl → Nat → List Int → Int → Res
  | [], _, _, _ => none
  | p :: _, 0, ds, t => rn p ds t
  | _ :: ps, n + 1, ds, t => rnAt ps n ds t
end
theorem seqR_some {a ds : List Int} {t : Int} {k : List Int → Int → Res} {b ds' : List Int} {t' : Int} (h : k ds t = some (b, ds', t')) : seqR (some (a, ds, t)) k = some (a ++ b, ds', t') := by
  unfold seqR; simp only [h]
theorem seqR_inv {r : Res} {k : List Int → Int → Res} {x ds' : List Int} {t' : Int} (h : seqR r k = some (x, ds', t')) : ∃ a ds t b, r = some (a, ds, t) ∧ k ds t = some (b, ds', t') ∧ x = a ++ b := by
  unfold seqR at h
  match r, h with
  | some (a, ds, t), h =>
    simp only at h
    cases e : k ds t with
    | none => rw [e] at h; cases h
    | some z =>
      obtain ⟨b, d2, t2⟩ := z
      rw [e] at h
      cases h
      exact ⟨a, ds, t, b, rfl, e, rfl⟩
theorem iter_rep (p : Pl) : ∀ (n : Nat) (ds : List Int) (t : Int), iter (rn p) n ds t = rns (List.replicate n p) ds t
  | 0, ds, t => by simp only [iter, List.replicate_zero, rns]
  | n + 1, ds, t => by
    have e : iter (rn p) n = rns (List.replicate n p) := funext fun a => funext fun b => iter_rep p n a b
    simp only [iter, List.replicate_succ, rns, e]
theorem rnAt_at : ∀ {ps : List Pl} {n : Nat} {p : Pl}, ps[n]? = some p → ∀ ds t, rnAt ps n ds t = rn p ds t
  | _ :: _, 0, _, e, ds, t => by cases e; simp only [rnAt]
  | _ :: ps, n + 1, _, e, ds, t => by simp only [rnAt]; exact rnAt_at (ps := ps) e ds t
theorem rnAt_some : ∀ {ps : List Pl} {n : Nat} {ds : List Int} {t : Int} {r : List Int × List Int × Int}, rnAt ps n ds t = some r → ∃ p, ps[n]? = some p ∧ rn p ds t = some r
  | [], _, _, _, _, h => by simp only [rnAt] at h; cases h
  | p :: _, 0, ds, t, r, h => by simp only [rnAt] at h; exact ⟨p, rfl, h⟩
  | _ :: ps, n + 1, ds, t, r, h => by simp only [rnAt] at h; exact rnAt_some (ps := ps) h
/-- delays that are used up -/
def Val (f : List Int → Int → Res) (ds : List Int) : Prop := ∀ rest t, ∃ np t', f (ds ++ rest) t = some (np, rest, t')
theorem val_nil : Val (rns []) [] := fun rest t => ⟨[], t, by simp only [List.nil_append, rns]⟩
theorem val_snoc : ∀ {ps : List Pl} {ds : List Int} {p : Pl} {d : List Int}, Val (rns ps) ds → Val (rn p) d → Val (rns (ps ++ [p])) (ds ++ d)
  | [], ds, p, d, h, hp => fun rest t => by
    obtain ⟨np, t1, e⟩ := h (d ++ rest) t
    simp only [rns] at e
    obtain ⟨rfl, e2, rfl⟩ : np = [] ∧ ds ++ (d ++ rest) = d ++ rest ∧ t = t1 := by
      have := Option.some.inj e
      simp only [Prod.mk.injEq] at this
      exact ⟨this.1.symm, this.2.1, this.2.2⟩
    obtain ⟨np2, t2, e3⟩ := hp rest t
    refine ⟨np2 ++ [], t2, ?_⟩
    rw [List.append_assoc, e2]
    simp only [List.nil_append, rns]
    rw [e3]
    exact seqR_some (by simp only [rns])
  | q :: ps, ds, p, d, h, hp => fun rest t => by
    obtain ⟨np, t1, e⟩ := h (d ++ rest) t
    simp only [rns] at e
    obtain ⟨a, ds1, s1, b, e1, e2, e3⟩ := seqR_inv e
    -- the rest of the parts, from what the first leaves
    obtain ⟨np2, t2, e4⟩ := hp rest t1
    have app : ∀ (ps : List Pl) (x : List Int) (s : Int) (b y : List Int) (s' : Int), rns ps x s = some (b, y, s') → ∀ (c z : List Int) (s'' : Int), rn p y s' = some (c, z, s'') → rns (ps ++ [p]) x s = some (b ++ c, z, s'') := by
      intro ps
      induction ps with
      | nil =>
        intro x s b y s' h1 c z s'' h2
        simp only [rns] at h1
        cases h1
        simp only [List.nil_append, rns, h2]
        have := seqR_some (a := c) (k := rns []) (ds := z) (t := s'') (b := []) (ds' := z) (t' := s'') (by simp only [rns])
        rw [List.append_nil] at this
        exact this
      | cons r ps ih =>
        intro x s b y s' h1 c z s'' h2
        simp only [rns] at h1
        obtain ⟨a1, x1, u1, b1, g1, g2, rfl⟩ := seqR_inv h1
        simp only [List.cons_append, rns, g1]
        rw [List.append_assoc]
        exact seqR_some (ih x1 u1 b1 y s' g2 c z s'' h2)
    refine ⟨a ++ (b ++ np2), t2, ?_⟩
    rw [List.append_assoc]
    simp only [List.cons_append, rns, e1]
    exact seqR_some (app ps ds1 s1 b (d ++ rest) t1 e2 np2 rest t2 e4)
mutual
/-- how many delays at the most -/
def mx : Pl → Nat
  | .pat => 0
  | .work _ _ => 1
  | .row ps => mxs ps
  | .either ps => 1 + mxs ps
  | .loop _ _ p => 1 + 9 * mx p
def mxs : List Pl → Nat
  | [] => 0
  | p :: ps => mx p + mxs ps
end
theorem ten_pos (l : Nat) : 1 ≤ 10 ^ l := Nat.pow_pos (by decide)
mutual
theorem mx_le : ∀ (p : Pl) (d l : Nat), okP d l p → mx p ≤ Wd.cnt p * 10 ^ l
  | .pat, d, l, h => Nat.zero_le _
  | .work _ _, d, l, h => by simp only [mx, Wd.cnt, Nat.one_mul]; exact ten_pos l
  | .row ps, 0, l, h => by unfold okP at h; exact h.elim
  | .row ps, d + 1, l, h => by
    unfold okP at h
    have := mxs_le ps d l h.2.2
    simp only [mx, Wd.cnt, Nat.add_mul]
    omega
  | .either ps, 0, l, h => by unfold okP at h; exact h.elim
  | .either ps, d + 1, l, h => by
    unfold okP at h
    have := mxs_le ps d l h.2.2
    have h1 : 1 ≤ 10 ^ l := ten_pos l
    simp only [mx, Wd.cnt, Nat.add_mul]
    omega
  | .loop a b p, 0, l, h => by unfold okP at h; exact h.elim
  | .loop a b p, d + 1, 0, h => by unfold okP at h; exact h.elim
  | .loop a b p, d + 1, l + 1, h => by
    unfold okP at h
    have := mx_le p d l h.2.2.2
    have h1 : 1 ≤ 10 ^ l := ten_pos l
    simp only [mx, Wd.cnt, Nat.add_mul, Nat.pow_succ]
    have e : Wd.cnt p * (10 ^ l * 10) = 10 * (Wd.cnt p * 10 ^ l) := by rw [← Nat.mul_assoc, Nat.mul_comm]
    omega
theorem mxs_le : ∀ (ps : List Pl) (d l : Nat), okPs d l ps → mxs ps ≤ Wd.cnts ps * 10 ^ l
  | [], d, l, h => Nat.zero_le _
  | p :: ps, d, l, h => by
    unfold okPs at h
    have h1 := mx_le p d l h.1
    have h2 := mxs_le ps d l h.2
    simp only [mxs, Wd.cnts, Nat.add_mul]
    omega
end
theorem mxs_take {ps : List Pl} {i : Nat} {p : Pl} (h : ps[i]? = some p) : mxs (ps.take i) + mx p ≤ mxs ps ∧ mxs (ps.take (i + 1)) = mxs (ps.take i) + mx p := by
  induction ps generalizing i with
  | nil => cases h
  | cons q ps ih =>
    match i, h with
    | 0, h => cases h; simp only [List.take_zero, List.take_succ_cons, mxs]; omega
    | i + 1, h =>
      have := ih (i := i) h
      simp only [List.take_succ_cons, mxs]
      omega
theorem mx_at {ps : List Pl} {i : Nat} {p : Pl} (h : ps[i]? = some p) : mx p ≤ mxs ps := by have := (mxs_take h).1; omega
end K03
namespace K03
open PySem PySem.Spec PyProof.Rows L2 Wd
section
variable {P : Program} {w : World} {K : PySem.W.Frag} {mg : Str → Option Value} {base : Heap}
def Frm2 (S F : Addr) (H H' : Hp) : Prop := ∀ b o, b ≠ S → b ≠ F → H b = some o → H' b = some o
theorem Frm2.refl (S F : Addr) (H : Hp) : Frm2 S F H H := fun _ _ _ _ h => h
theorem Frm2.trans {S F : Addr} {H H1 H2 : Hp} (a : Frm2 S F H H1) (b : Frm2 S F H1 H2) : Frm2 S F H H2 := fun c o n1 n2 h => b c o n1 n2 (a c o n1 n2 h)
theorem Frm2.of1 {S F : Addr} {H H' : Hp} (f : Frm S H H') : Frm2 S F H H' := fun b o n _ h => f b o n h
theorem Frm2.set {S F : Addr} {H : Hp} {o : HO} : Frm2 S F H (upd H F o) := fun b u _ n h => by rw [upd_ne n]; exact h
theorem keepT_frm2 {B H H' : Hp} {S F : Addr} {xs : List V} (d : Dst K B H S) (hF : H F = some (.lst xs)) (f : Frm2 S F H H') : KeepT H H' := fun b ys h => by
  obtain ⟨sc, ns, c, m, r, hS, _⟩ := d
  exact f b _ (ne_of h hS (fun z => nomatch z)) (ne_of h hF (fun z => nomatch z)) h
theorem val_pat : Val (rn .pat) [] := fun rest t => ⟨[t], t, by simp only [List.nil_append, rn]⟩
theorem val_work {a b d : Int} (h : a ≤ d ∧ d ≤ b) : Val (rn (.work a b)) [d] := fun rest t => ⟨[], t + d, by simp only [List.cons_append, List.nil_append, rn]; rw [if_pos h]⟩
theorem val_row {ps : List Pl} {ds : List Int} (h : Val (rns ps) ds) : Val (rn (.row ps)) ds := fun rest t => by
  obtain ⟨np, t', e⟩ := h rest t
  exact ⟨np, t', by simp only [rn]; exact e⟩
theorem val_either {ps : List Pl} {p : Pl} {i : Int} {ds : List Int} (h0 : 0 ≤ i) (hp : ps[i.toNat]? = some p) (h : Val (rn p) ds) : Val (rn (.either ps)) (i :: ds) := fun rest t => by
  obtain ⟨np, t', e⟩ := h rest t
  exact ⟨np, t', by simp only [List.cons_append, rn]; rw [if_pos h0, rnAt_at hp]; exact e⟩
theorem val_loop {a b n : Int} {p : Pl} {ds : List Int} (h0 : a ≤ n ∧ n ≤ b) (h : Val (rns (List.replicate n.toNat p)) ds) : Val (rn (.loop a b p)) (n :: ds) := fun rest t => by
  obtain ⟨np, t', e⟩ := h rest t
  exact ⟨np, t', by simp only [List.cons_append, rn]; rw [if_pos h0, iter_rep]; exact e⟩
theorem last_of (old : List Int) (n : Int) : ((old ++ [n]).map V.int)[((old ++ [n]).map V.int).length - 1]? = some (V.int n) := by
  rw [List.length_map, List.getElem?_map, List.length_append, List.length_singleton, Nat.add_sub_cancel, List.getElem?_append_right (Nat.le_refl _), Nat.sub_self]; rfl
theorem atI_back {xs : List V} {v : V} (h : xs[xs.length - 1]? = some v) : atI xs (-1) = some v := by
  have hl := (List.getElem?_eq_some_iff.mp h).1
  unfold atI ixN
  rw [if_neg (by decide), if_pos (by omega)]
  have e : (-1 + (xs.length : Int)).toNat = xs.length - 1 := by omega
  rw [e]
  exact h

abbrev s_law_delays : Stmt := top 26
theorem sc_law_delays : FnScope ["_law_state", "_law_plan_here", "_law_found", "_law_part", "_law_turn"] ["_law_state", "_law_plan_here", "_law_found"] (C8.fnScope s_law_delays) := C8.fnScope_by (by decide +kernel)
def sp_delays (K : PySem.W.Frag) : Nat → Sp
  | 0 => fun _ _ _ _ => False
  | d + 1 => fun vs H Q _ => ∃ (B : Hp) (S : Addr) (v : V) (p : Pl) (l : Nat) (F : Addr) (old : List Int), vs = [.ref S, v, .ref F] ∧ Dst K B H S ∧ PlA H v p ∧ okP d l p ∧ H F = some (.lst (old.map V.int)) ∧ F ≠ S ∧ B F = none ∧ old.length + mx p ≤ 50000 ∧
    ∀ H' ds, Frm2 S F H H' → Dst K B H' S → H' F = some (.lst ((old ++ ds).map V.int)) → Val (rn p) ds → ds.length ≤ mx p → Q .non H'
theorem use_delays {d : Nat} {B H : Hp} {S F : Addr} {v : V} {p : Pl} {l : Nat} {old : List Int} {Q : VK} {E : XK} (hd : Dst K B H S) (hp : PlA H v p) (ok : okP d l p) (hF : H F = some (.lst (old.map V.int))) (nF : F ≠ S) (bF : B F = none) (sz : old.length + mx p ≤ 50000)
    (k : ∀ H' ds, Frm2 S F H H' → Dst K B H' S → H' F = some (.lst ((old ++ ds).map V.int)) → Val (rn p) ds → ds.length ≤ mx p → Q .non H') : sp_delays K (d + 1) ([.ref S, v, .ref F] ++ []) H Q E := ⟨B, S, v, p, l, F, old, rfl, hd, hp, ok, hF, nF, bF, sz, k⟩
theorem delays_step (T : Txt K mg) {d : Nat} {f : Addr} {fd : FuncData} (D : C8.Def K mg "_law_delays" s_law_delays f fd) (b : Binds K fd ["_law_state", "_law_plan_here", "_law_found"] []) (g_law_drawn : C8.Cal P w K mg base 1 "_law_drawn" (sp_drawn K) [])
    (g_law_delays : C8.Cal P w K mg base (d + 1) "_law_delays" (sp_delays K d) []) : C8.Cal P w K mg base (d + 2) "_law_delays" (sp_delays K (d + 1)) [] := by
  refine C8.cal0 D b .nil sc_law_delays (fun vs H Q E h => ?_) fun cdv A outer s H vs Q E hr h => ?_
  · obtain ⟨B, S, v, p, l, F, old, rfl, _⟩ := h; rfl
  · obtain ⟨B, S, v, p, l, F, old, rfl, hd, hp, ok, hF, nF, bF, sz, q⟩ := h
    have nd := sc_law_delays.nd
    have hr : Room (d + 1) _ := hr
    refine ⟨_, (pss_one (ps_if (pt_cmpR op_eq (pe_ix (r := rIxT K) ix_tup (pv 1) pe_int (fun _ _ => rfl)) pe_str (nomark _)) (pss_one (ps_expr (pe_bmK (K := K) rfl PySem.F.plainAttrs_list PySem.F.slot_list_append PySem.F.type_list_append mt_append (pv 2) (pa_cons (pe_op op_add (pe_ix (r := rIxT K) ix_tup (pv 1) pe_int (fun _ _ => rfl)) (C8.pe_c g_law_drawn hr (by first | decide | exact Nat.le_refl _ | omega) (by rfl) (pa_cons (pv 0) (pa_cons (pe_op op_add (pe_op op_sub (pe_ix (r := rIxT K) ix_tup (pv 1) pe_int (fun _ _ => rfl)) (pe_ix (r := rIxT K) ix_tup (pv 1) pe_int (fun _ _ => rfl))) pe_int) pa_nil)))) pa_nil)))) (pss_one (ps_if (pt_cmpR op_eq (pe_ix (r := rIxT K) ix_tup (pv 1) pe_int (fun _ _ => rfl)) pe_str (nomark _)) (pss_one (ps_for PassesOwn.never rfl (pi_tup (pe_ix (r := rIxT K) ix_tup (pv 1) pe_int (fun _ _ => rfl))) (pg_name (i := 3) nd rfl (Or.inl rfl)) (pss_one (ps_expr (C8.pe_c g_law_delays hr (by first | decide | exact Nat.le_refl _ | omega) (by rfl) (pa_cons (pv 0) (pa_cons (pv 3) (pa_cons (pv 2) pa_nil)))))))) (pss_one (ps_if (pt_cmpR op_eq (pe_ix (r := rIxT K) ix_tup (pv 1) pe_int (fun _ _ => rfl)) pe_str (nomark _)) (pss_cons (ps_expr (pe_bmK (K := K) rfl PySem.F.plainAttrs_list PySem.F.slot_list_append PySem.F.type_list_append mt_append (pv 2) (pa_cons (C8.pe_c g_law_drawn hr (by first | decide | exact Nat.le_refl _ | omega) (by rfl) (pa_cons (pv 0) (pa_cons (pe_callB (r := Wd.rLen K) call_len1 (by rfl) T.n_len PySem.boot_len (pa_cons (pe_ix (r := rIxT K) ix_tup (pv 1) pe_int (fun _ _ => rfl)) pa_nil)) pa_nil))) pa_nil)))
      (pss_one (ps_expr (C8.pe_c g_law_delays hr (by first | decide | exact Nat.le_refl _ | omega) (by rfl) (pa_cons (pv 0) (pa_cons (pe_ix (r := rIxT K) ix_tup (pe_ix (r := rIxT K) ix_tup (pv 1) pe_int (fun _ _ => rfl)) (pe_ix (r := rIxL K) ix_list (pv 2) (pe_un un_neg pe_int) (fun _ _ => rfl)) (fun _ _ => rfl)) (pa_cons (pv 2) pa_nil))))))) (pss_one (ps_if (pt_cmpR op_eq (pe_ix (r := rIxT K) ix_tup (pv 1) pe_int (fun _ _ => rfl)) pe_str (nomark _)) (pss_cons (ps_expr (pe_bmK (K := K) rfl PySem.F.plainAttrs_list PySem.F.slot_list_append PySem.F.type_list_append mt_append (pv 2) (pa_cons (pe_op op_add (pe_ix (r := rIxT K) ix_tup (pv 1) pe_int (fun _ _ => rfl)) (C8.pe_c g_law_drawn hr (by first | decide | exact Nat.le_refl _ | omega) (by rfl) (pa_cons (pv 0) (pa_cons (pe_op op_add (pe_op op_sub (pe_ix (r := rIxT K) ix_tup (pv 1) pe_int (fun _ _ => rfl)) (pe_ix (r := rIxT K) ix_tup (pv 1) pe_int (fun _ _ => rfl))) pe_int) pa_nil)))) pa_nil)))
      (pss_one (ps_for PassesOwn.never rfl (pi_range1 rfl T.n_range (pa_cons (pe_ix (r := rIxL K) ix_list (pv 2) (pe_un un_neg pe_int) (fun _ _ => rfl)) pa_nil)) (pg_name (i := 4) nd rfl (Or.inl rfl)) (pss_one (ps_expr (C8.pe_c g_law_delays hr (by first | decide | exact Nat.le_refl _ | omega) (by rfl) (pa_cons (pv 0) (pa_cons (pe_ix (r := rIxT K) ix_tup (pv 1) pe_int (fun _ _ => rfl)) (pa_cons (pv 2) pa_nil))))))))) pss_nil)))))))), ?_⟩
    cases hp with
    | pat ha =>
      walk_at "go"
      refine g_ixT (SqT.of ha) rfl ?_
      walk_at "go"
      refine g_ixT (SqT.of ha) rfl ?_
      walk_at "go"
      refine g_ixT (SqT.of ha) rfl ?_
      walk_at "go"
      refine g_ixT (SqT.of ha) rfl ?_
      walk_at "go"
      exact q _ [] (.refl _ _ _) hd (by rw [List.append_nil]; exact hF) val_pat (Nat.zero_le _)
    | @work a x y ha =>
      unfold okP at ok
      walk_at "go"
      refine g_ixT (SqT.of ha) rfl ?_
      walk_at "go"
      refine g_tyL hF ?_
      walk_at "go"
      refine g_ixT (SqT.of ha) rfl ?_
      walk_at "go"
      refine g_ixT (SqT.of ha) rfl ?_
      walk_at "go"
      refine g_ixT (SqT.of ha) rfl ?_
      walk_at "go"
      refine use_drawn (n := y - x + 1) hd (by omega) (by omega) fun H1 c f1 d1 c0 c1 => ?_
      have hF1 := f1 _ _ nF hF
      walk_at "go"
      simp only [mx] at sz
      refine g_append hF1 (by rw [List.length_map]; omega) ?_
      walk_at "go"
      exact q _ [x + c] ((Frm2.of1 f1).trans .set) (d1.mut nF bF) (by rw [upd_same, List.map_append]; rfl) (val_work ⟨by omega, by omega⟩) (by simp only [mx]; exact Nat.le_refl _)
    | @row a c vs ps ha hc hps =>
      match d, ok with
      | 0, ok => unfold okP at ok; exact ok.elim
      | d + 1, ok =>
      unfold okP at ok
      have ln := hps.len
      simp only [mx] at sz
      walk_at "go"
      refine g_ixT (SqT.of ha) rfl ?_
      walk_at "go"
      refine g_ixT (SqT.of ha) rfl ?_
      walk_at "go"
      refine g_ixT (SqT.of ha) rfl ?_
      refine w_tup (xs := vs) (fun i σ H' => ∃ (v3 v4 : Option V) (ds : List Int), σ = [some (.ref S), some (.ref a), some (.ref F), v3, v4] ∧ Frm2 S F H H' ∧ Dst K B H' S ∧ H' F = some (.lst ((old ++ ds).map V.int)) ∧ Val (rns (ps.take i)) ds ∧ ds.length ≤ mxs (ps.take i)) ?_ ?_ ?_ ?_
      · exact ⟨_, _, [], rfl, .refl _ _ _, hd, by rw [List.append_nil]; exact hF, val_nil, Nat.zero_le _⟩
      · rintro i σ H' _ ⟨v3, v4, ds, _, f, _⟩
        exact SqT.of (keepT_frm2 hd hF f _ _ hc)
      · rintro i v σ H' hv ⟨v3, v4, ds, rfl, f, dd, e, va, le⟩
        obtain ⟨p, hp, pv⟩ := hps.at hv
        obtain ⟨b1, b2⟩ := mxs_take hp
        have kt := keepT_frm2 hd hF f
        walk_at "go"
        refine use_delays dd (PlA_keep kt _ _ pv) (okPs_at ok.2.2 hp) e nF bF (by rw [List.length_append]; omega) fun H2 ds2 f2 d2 e2 va2 le2 => ?_
        walk_at "go"
        refine ⟨_, _, ds ++ ds2, rfl, f.trans f2, d2, by rw [← List.append_assoc]; exact e2, ?_, by rw [b2, List.length_append]; omega⟩
        rw [take_snoc hp]
        exact val_snoc va va2
      · rintro σ H' ⟨v3, v4, ds, rfl, f, dd, e, va, le⟩
        rw [ln, List.take_length] at va le
        walk_at "go"
        exact q _ ds f dd e (val_row va) (by simp only [mx]; exact le)
    | @either a c vs ps ha hc hps =>
      match d, ok with
      | 0, ok => unfold okP at ok; exact ok.elim
      | d + 1, ok =>
      unfold okP at ok
      have ln := hps.len
      simp only [mx] at sz
      walk_at "go"
      refine g_ixT (SqT.of ha) rfl ?_
      walk_at "go"
      refine g_ixT (SqT.of ha) rfl ?_
      walk_at "go"
      refine g_ixT (SqT.of ha) rfl ?_
      walk_at "go"
      refine g_tyL hF ?_
      walk_at "go"
      refine g_ixT (SqT.of ha) rfl ?_
      walk_at "go"
      refine g_len (.inr (SqT.of hc)) ?_
      walk_at "go"
      refine use_drawn hd (by omega) (by omega) fun H1 i f1 d1 i0 i1 => ?_
      have hF1 := f1 _ _ nF hF
      have kt := keepT_frm hd f1
      walk_at "go"
      refine g_append hF1 (by rw [List.length_map]; omega) ?_
      have kt2 := kt.trans (keepT_lst (o := .lst (old.map V.int ++ [V.int i])) hF1)
      have hF2 : upd H1 F (.lst (old.map V.int ++ [V.int i])) F = some (.lst ((old ++ [i]).map V.int)) := by rw [upd_same, List.map_append]; rfl
      have d2 := d1.mut (o := .lst (old.map V.int ++ [V.int i])) nF bF
      walk_at "go"
      refine g_ixT (SqT.of (kt2 _ _ ha)) rfl ?_
      walk_at "go"
      refine g_ixL (SqL.of hF2) (atI_back (last_of old i)) ?_
      have hi : i.toNat < vs.length := by omega
      have hvi : vs[i.toNat]? = some vs[i.toNat] := List.getElem?_eq_getElem hi
      obtain ⟨p, hp, pv⟩ := hps.at hvi
      have m1 := mx_at hp
      refine g_ixT (v := vs[i.toNat]) (SqT.of (kt2 _ _ hc)) (at_of (j := i.toNat) (by omega) hvi) ?_
      walk_at "go"
      refine use_delays d2 (PlA_keep kt2 _ _ pv) (okPs_at ok.2.2 hp) hF2 nF bF (by rw [List.length_append, List.length_singleton]; omega) fun H3 ds2 f3 d3 e3 va3 le3 => ?_
      walk_at "go"
      exact q _ (i :: ds2) (((Frm2.of1 f1).trans .set).trans f3) d3 (by rw [List.append_cons]; exact e3) (val_either i0 hp va3) (by simp only [mx, List.length_cons]; omega)
    | @loop a x y u p ha hu =>
      match d, ok with
      | 0, ok => unfold okP at ok; exact ok.elim
      | d + 1, ok =>
      match l, ok with
      | 0, ok => unfold okP at ok; exact ok.elim
      | l + 1, ok =>
      unfold okP at ok
      simp only [mx] at sz
      walk_at "go"
      refine g_ixT (SqT.of ha) rfl ?_
      walk_at "go"
      refine g_ixT (SqT.of ha) rfl ?_
      walk_at "go"
      refine g_ixT (SqT.of ha) rfl ?_
      walk_at "go"
      refine g_ixT (SqT.of ha) rfl ?_
      walk_at "go"
      refine g_tyL hF ?_
      walk_at "go"
      refine g_ixT (SqT.of ha) rfl ?_
      walk_at "go"
      refine g_ixT (SqT.of ha) rfl ?_
      walk_at "go"
      refine g_ixT (SqT.of ha) rfl ?_
      walk_at "go"
      refine use_drawn (n := y - x + 1) hd (by omega) (by omega) fun H1 c f1 d1 c0 c1 => ?_
      have hF1 := f1 _ _ nF hF
      have kt := keepT_frm hd f1
      walk_at "go"
      refine g_append hF1 (by rw [List.length_map]; omega) ?_
      have kt2 := kt.trans (keepT_lst (o := .lst (old.map V.int ++ [V.int (x + c)])) hF1)
      have hF2 : upd H1 F (.lst (old.map V.int ++ [V.int (x + c)])) F = some (.lst ((old ++ [x + c]).map V.int)) := by rw [upd_same, List.map_append]; rfl
      have d2 := d1.mut (o := .lst (old.map V.int ++ [V.int (x + c)])) nF bF
      have f2 : Frm2 S F H (upd H1 F (.lst (old.map V.int ++ [V.int (x + c)]))) := (Frm2.of1 f1).trans .set
      walk_at "go"
      refine g_ixL (SqL.of hF2) (atI_back (last_of old (x + c))) ?_
      walk_at "go"
      refine w_range (by omega) (by omega) (fun i σ H' => ∃ (v3 v4 : Option V) (ds : List Int), σ = [some (.ref S), some (.ref a), some (.ref F), v3, v4] ∧ Frm2 S F H H' ∧ Dst K B H' S ∧ H' F = some (.lst (((old ++ [x + c]) ++ ds).map V.int)) ∧ Val (rns (List.replicate i p)) ds ∧ ds.length ≤ i * mx p) ?_ ?_ ?_
      · exact ⟨_, _, [], rfl, f2, d2, by rw [List.append_nil]; exact hF2, val_nil, by simp⟩
      · rintro i σ H' hi ⟨v3, v4, ds, rfl, f, dd, e, va, le⟩
        have kt3 := keepT_frm2 hd hF f
        have i9 : i ≤ 8 := by omega
        have le9 : i * mx p ≤ 8 * mx p := Nat.mul_le_mul_right _ i9
        walk_at "go"
        refine g_ixT (SqT.of (kt3 _ _ ha)) rfl ?_
        walk_at "go"
        refine use_delays dd (PlA_keep kt3 _ _ hu) ok.2.2.2 e nF bF (by rw [List.length_append, List.length_append, List.length_singleton]; omega) fun H4 ds2 f4 d4 e4 va4 le4 => ?_
        walk_at "go"
        refine ⟨_, _, ds ++ ds2, rfl, f.trans f4, d4, by rw [← List.append_assoc]; exact e4, ?_, by rw [List.length_append, Nat.add_mul]; omega⟩
        rw [List.replicate_succ']
        exact val_snoc va va4
      · rintro σ H' ⟨v3, v4, ds, rfl, f, dd, e, va, le⟩
        have i9 : (x + c).toNat ≤ 9 := by omega
        have le9 : (x + c).toNat * mx p ≤ 9 * mx p := Nat.mul_le_mul_right _ i9
        walk_at "go"
        exact q _ ((x + c) :: ds) f dd (by rw [List.append_cons]; exact e) (val_loop ⟨by omega, by omega⟩ va) (by simp only [mx, List.length_cons]; omega)
theorem ok_delays (T : Txt K mg) {f : Addr} {fd : FuncData} (D : C8.Def K mg "_law_delays" s_law_delays f fd) (b : Binds K fd ["_law_state", "_law_plan_here", "_law_found"] []) (g_law_drawn : C8.Cal P w K mg base 1 "_law_drawn" (sp_drawn K) []) : ∀ n : Nat, C8.Cal P w K mg base (n + 1) "_law_delays" (sp_delays K n) []
  | 0 => ⟨f, fd, ["_law_state", "_law_plan_here", "_law_found"], [], ⟨fun _ _ _ _ h => h.elim, fun _ _ _ _ _ _ _ _ _ _ _ _ _ h => h.elim⟩, D.mgf, D.kp, b, .nil⟩
  | n + 1 => delays_step T D b g_law_drawn (ok_delays T D b g_law_drawn n)
end
end K03
namespace K03
open PySem PySem.Spec PyProof.Rows L2 Wd
section
variable {P : Program} {w : World} {K : PySem.W.Frag} {mg : Str → Option Value} {base : Heap}
theorem rns_snoc : ∀ {ps : List Pl} {p : Pl} {x : List Int} {s : Int} {b y : List Int} {s' : Int} {c z : List Int} {s'' : Int}, rns ps x s = some (b, y, s') → rn p y s' = some (c, z, s'') → rns (ps ++ [p]) x s = some (b ++ c, z, s'')
  | [], p, x, s, b, y, s', c, z, s'', h1, h2 => by
    simp only [rns] at h1
    cases h1
    simp only [List.nil_append, rns, h2]
    have := seqR_some (a := c) (k := rns []) (ds := z) (t := s'') (b := []) (ds' := z) (t' := s'') (by simp only [rns])
    rw [List.append_nil] at this
    exact this
  | r :: ps, p, x, s, b, y, s', c, z, s'', h1, h2 => by
    simp only [rns] at h1
    obtain ⟨a1, x1, u1, b1, g1, g2, rfl⟩ := seqR_inv h1
    simp only [List.cons_append, rns, g1]
    rw [List.append_assoc]
    exact seqR_some (rns_snoc g2 h2)
theorem drop_at {α : Type} : ∀ {l : List α} {i : Nat} {x : α}, l[i]? = some x → l.drop i = x :: l.drop (i + 1)
  | _ :: _, 0, _, e => by cases e; rfl
  | _ :: l, i + 1, _, e => drop_at (l := l) (i := i) e
theorem keepT_of_frm {H H' : Hp} {PA : Addr} {xs : List V} (hP : H PA = some (.lst xs)) (f : Frm PA H H') : KeepT H H' := fun b ys h => f b _ (ne_of h hP (fun z => nomatch z)) h
theorem rns_one {p : Pl} {x : List Int} {s : Int} {b y : List Int} {s' : Int} (h : rn p x s = some (b, y, s')) : rns [p] x s = some (b, y, s') := by
  have := rns_snoc (ps := []) (x := x) (s := s) (b := []) (y := x) (s' := s) (by simp only [rns]) h
  exact this
theorem f1' {H : Hp} {p PA : Addr} {o u : HO} (h : H p = none) (e : H PA = some u) : upd H p o PA = some u := same_new h _ _ e
abbrev s_law_done : Stmt := top 27
theorem sc_law_done : FnScope ["_law_plan_here", "_law_delays_here", "_law_pats", "_law_now", "_law_parts", "_law_part"] ["_law_plan_here", "_law_delays_here", "_law_pats", "_law_now"] (C8.fnScope s_law_done) := C8.fnScope_by (by decide +kernel)
def sp_done (K : PySem.W.Frag) : Nat → Sp
  | 0 => fun _ _ _ _ => False
  | d + 1 => fun vs H Q _ => ∃ (v : V) (p : Pl) (l : Nat) (LA PA : Addr) (ds ps : List Int) (t : Int) (nq ds' : List Int) (t' : Int), vs = [v, .ref LA, .ref PA, .int t] ∧ PlA H v p ∧ okP d l p ∧ H LA = some (.lst (ds.map V.int)) ∧ LA ≠ PA ∧ H PA = some (.lst (ps.map V.int)) ∧ rn p ds t = some (nq, ds', t') ∧ ps.length + nq.length ≤ 50000 ∧
    ∀ H' R L', Frm PA H H' → H' R = some (.tup [.int t', .ref L']) → H' L' = some (.lst (ds'.map V.int)) → L' ≠ PA → H' PA = some (.lst ((ps ++ nq).map V.int)) → Q (.ref R) H'
theorem use_done {d : Nat} {H : Hp} {v : V} {p : Pl} {l : Nat} {LA PA : Addr} {ds ps : List Int} {t : Int} {nq ds' : List Int} {t' : Int} {Q : VK} {E : XK} (hp : PlA H v p) (ok : okP d l p) (hL : H LA = some (.lst (ds.map V.int))) (ne : LA ≠ PA) (hP : H PA = some (.lst (ps.map V.int))) (r : rn p ds t = some (nq, ds', t')) (sz : ps.length + nq.length ≤ 50000)
    (k : ∀ H' R L', Frm PA H H' → H' R = some (.tup [.int t', .ref L']) → H' L' = some (.lst (ds'.map V.int)) → L' ≠ PA → H' PA = some (.lst ((ps ++ nq).map V.int)) → Q (.ref R) H') : sp_done K (d + 1) ([v, .ref LA, .ref PA, .int t] ++ []) H Q E := ⟨v, p, l, LA, PA, ds, ps, t, nq, ds', t', rfl, hp, ok, hL, ne, hP, r, sz, k⟩
theorem done_step (T : Txt K mg) {d : Nat} {f : Addr} {fd : FuncData} (D : C8.Def K mg "_law_done" s_law_done f fd) (b : Binds K fd ["_law_plan_here", "_law_delays_here", "_law_pats", "_law_now"] []) 
    (g_law_done : C8.Cal P w K mg base (d + 1) "_law_done" (sp_done K d) []) : C8.Cal P w K mg base (d + 2) "_law_done" (sp_done K (d + 1)) [] := by
  refine C8.cal0 D b .nil sc_law_done (fun vs H Q E h => ?_) fun cdv A outer s H vs Q E hr h => ?_
  · obtain ⟨v, p, l, LA, PA, ds, ps, t, nq, ds', t', rfl, _⟩ := h; rfl
  · obtain ⟨v, p, l, LA, PA, ds, ps, t, nq, ds', t', rfl, hp, ok, hL, ne, hP, r, sz, q⟩ := h
    have nd := sc_law_done.nd
    have hr : Room (d + 1) _ := hr
    refine ⟨_, (pss_cons (ps_if (pt_cmpR op_eq (pe_ix (r := rIxT K) ix_tup (pv 0) pe_int (fun _ _ => rfl)) pe_str (nomark _)) (pss_cons (ps_expr (pe_bmK (K := K) rfl PySem.F.plainAttrs_list PySem.F.slot_list_append PySem.F.type_list_append mt_append (pv 2) (pa_cons (pv 3) pa_nil)))
      (pss_one (ps_ret (pe_tup (pa_cons (pv 3) (pa_cons (pv 1) pa_nil)))))) pss_nil)
      (pss_cons (ps_if (pt_cmpR op_eq (pe_ix (r := rIxT K) ix_tup (pv 0) pe_int (fun _ _ => rfl)) pe_str (nomark _)) (pss_one (ps_ret (pe_tup (pa_cons (pe_op op_add (pv 3) (pe_ix (r := rIxL K) ix_list (pv 1) pe_int (fun _ _ => rfl))) (pa_cons (pe_slice (r := rSlL K) sl_list (pv 1) (po_some pe_int) po_none) pa_nil))))) pss_nil)
      (pss_cons (ps_set (i := 4) nd rfl (Or.inl rfl) (pe_ix (r := rIxT K) ix_tup (pv 0) pe_int (fun _ _ => rfl)))
      (pss_cons (ps_if (pt_cmpR op_eq (pe_ix (r := rIxT K) ix_tup (pv 0) pe_int (fun _ _ => rfl)) pe_str (nomark _)) (pss_one (ps_set (i := 4) nd rfl (Or.inl rfl) (pe_tup (pa_cons (pe_ix (r := rIxT K) ix_tup (pe_ix (r := rIxT K) ix_tup (pv 0) pe_int (fun _ _ => rfl)) (pe_ix (r := rIxL K) ix_list (pv 1) pe_int (fun _ _ => rfl)) (fun _ _ => rfl)) pa_nil)))) pss_nil)
      (pss_cons (ps_if (pt_cmpR op_eq (pe_ix (r := rIxT K) ix_tup (pv 0) pe_int (fun _ _ => rfl)) pe_str (nomark _)) (pss_one (ps_set (i := 4) nd rfl (Or.inl rfl) (pe_op (r := rRepU K) op_repU (pe_tup (pa_cons (pe_ix (r := rIxT K) ix_tup (pv 0) pe_int (fun _ _ => rfl)) pa_nil)) (pe_ix (r := rIxL K) ix_list (pv 1) pe_int (fun _ _ => rfl))))) pss_nil)
      (pss_cons (ps_if (pt_cmpR op_ne (pe_ix (r := rIxT K) ix_tup (pv 0) pe_int (fun _ _ => rfl)) pe_str (nomark _)) (pss_one (ps_set (i := 1) nd rfl (Or.inl rfl) (pe_slice (r := rSlL K) sl_list (pv 1) (po_some pe_int) po_none))) pss_nil)
      (pss_cons (ps_for PassesOwn.never rfl (pi_tup (pv 4)) (pg_name (i := 5) nd rfl (Or.inl rfl)) (pss_one (ps_asg (C8.pe_c g_law_done hr (by first | decide | exact Nat.le_refl _ | omega) (by rfl) (pa_cons (pv 5) (pa_cons (pv 1) (pa_cons (pv 2) (pa_cons (pv 3) pa_nil))))) (pg_tup rfl (pgs_cons (pg_name (i := 3) nd rfl (Or.inl rfl)) (pgs_cons (pg_name (i := 1) nd rfl (Or.inl rfl)) pgs_nil))))))
      (pss_one (ps_ret (pe_tup (pa_cons (pv 3) (pa_cons (pv 1) pa_nil)))))))))))), ?_⟩
    cases hp with
    | pat ha =>
      walk_at "go"
      refine g_ixT (SqT.of ha) rfl ?_
      walk_at "go"
      refine g_tyL hP ?_
      walk_at "go"
      simp only [rn, Option.some.injEq, Prod.mk.injEq] at r
      obtain ⟨rfl, rfl, rfl⟩ := r
      refine g_append hP (by rw [List.length_map]; omega) ?_
      walk_at "go"
      intro R hR
      have f1 : Frm PA H (upd H PA (.lst (ps.map V.int ++ [.int t]))) := .set
      exact q _ R LA (f1.trans (.new hR)) upd_same (same_new hR _ _ (f1 _ _ ne hL)) ne (same_new hR _ _ (by rw [upd_same, List.map_append]; rfl))
    | @work a x y ha =>
      match ds, r with
      | [], r => simp only [rn] at r; cases r
      | d0 :: ds0, r =>
      simp only [rn] at r
      split at r
      · rename_i bd
        simp only [Option.some.injEq, Prod.mk.injEq] at r
        obtain ⟨rfl, rfl, rfl⟩ := r
        walk_at "go"
        refine g_ixT (SqT.of ha) rfl ?_
        walk_at "go"
        refine g_ixT (SqT.of ha) rfl ?_
        walk_at "go"
        refine g_ixL (v := .int d0) (SqL.of hL) (at_of (j := 0) rfl rfl) ?_
        walk_at "go"
        refine g_slL (SqL.of hL) fun p1 h1 => ?_
        walk_at "go"
        intro R hR
        have f1 : Frm PA H (upd H p1 (.lst (cutV ((d0 :: ds0).map V.int) (some 1) none))) := .new h1
        refine q _ R p1 (f1.trans (.new hR)) upd_same (same_new hR _ _ ?_) (ne_of_none hP h1).symm (same_new hR _ _ (by rw [List.append_nil]; exact f1' h1 hP)) 
        rw [upd_same, cut1]; rfl
      · cases r
    | @row a c vs ps' ha hc hps =>
      match d, ok, g_law_done with
      | 0, ok, _ => unfold okP at ok; exact ok.elim
      | d + 1, ok, g_law_done =>
      unfold okP at ok
      have ln := hps.len
      simp only [rn] at r
      walk_at "go"
      refine g_ixT (SqT.of ha) rfl ?_
      walk_at "go"
      refine g_ixT (SqT.of ha) rfl ?_
      walk_at "go"
      refine g_ixT (SqT.of ha) rfl ?_
      walk_at "go"
      refine g_ixT (SqT.of ha) rfl ?_
      walk_at "go"
      refine g_ixT (SqT.of ha) rfl ?_
      walk_at "go"
      refine g_ixT (SqT.of ha) rfl ?_
      walk_at "go"
      refine w_tup (xs := vs) (fun i σ H' => ∃ (LA' : Addr) (v5 : Option V) (np ds1 : List Int) (t1 : Int), σ = [some (.ref a), some (.ref LA'), some (.ref PA), some (.int t1), some (.ref c), v5] ∧ Frm PA H H' ∧ H' c = some (.tup vs) ∧ H' LA' = some (.lst (ds1.map V.int)) ∧ LA' ≠ PA ∧ H' PA = some (.lst ((ps ++ np).map V.int)) ∧
        rns (ps'.take i) ds t = some (np, ds1, t1) ∧ ∃ np2, rns (ps'.drop i) ds1 t1 = some (np2, ds', t') ∧ np ++ np2 = nq) ?_ ?_ ?_ ?_
      · exact ⟨LA, _, [], ds, t, rfl, .refl _ _, hc, hL, ne, by rw [List.append_nil]; exact hP, by simp only [List.take_zero, rns], nq, by rw [List.drop_zero]; exact r, rfl⟩
      · rintro i σ H' _ ⟨LA', v5, np, ds1, t1, _, f, tp0, _⟩
        exact SqT.of tp0
      · rintro i v σ H' hv ⟨LA', v5, np, ds1, t1, rfl, f, tp0, la1, ne1, pa1, r1, np2, r2, e2⟩
        obtain ⟨q1, hq, pv⟩ := (hps).at hv
        rw [drop_at hq, rns] at r2
        obtain ⟨a2, d2, t2, b2, g1, g2, rfl⟩ := seqR_inv r2
        have le2 : (ps ++ np).length + a2.length ≤ 50000 := by
          rw [← e2, List.length_append, List.length_append] at sz
          rw [List.length_append]
          omega
        walk_at "go"
        refine use_done (PlA_keep (keepT_of_frm hP f) _ _ pv) (okPs_at ok.2.2 hq) la1 ne1 pa1 g1 le2 fun H2 R L2 f2 hR hL2 nL hp2 => ?_
        walk_at "go"
        refine g_gtup (SqT.of hR) rfl ?_
        walk_at "go"
        refine ⟨L2, _, np ++ a2, d2, t2, rfl, f.trans f2, f2 _ _ (ne_of tp0 pa1 (fun z => nomatch z)) tp0, hL2, nL, by rw [← List.append_assoc]; exact hp2, ?_, b2, g2, by rw [List.append_assoc]; exact e2⟩
        rw [take_snoc hq]
        exact rns_snoc r1 g1
      · rintro σ H' ⟨LA', v5, np, ds1, t1, rfl, f, tp0, la1, ne1, pa1, r1, np2, r2, e2⟩
        rw [ln, List.drop_length, rns] at r2
        obtain ⟨rfl, rfl, rfl⟩ : [] = np2 ∧ ds1 = ds' ∧ t1 = t' := by
          have := Option.some.inj r2
          simp only [Prod.mk.injEq] at this
          exact this
        rw [List.append_nil] at e2
        subst e2
        walk_at "go"
        intro R hR
        exact q _ R LA' (f.trans (.new hR)) upd_same (same_new hR _ _ la1) ne1 (same_new hR _ _ pa1)
    | @either a c vs ps' ha hc hps =>
      match d, ok, g_law_done with
      | 0, ok, _ => unfold okP at ok; exact ok.elim
      | d + 1, ok, g_law_done =>
      match ds, hL, r with
      | [], hL, r => simp only [rn] at r; cases r
      | d0 :: ds0, hL, r =>
      unfold okP at ok
      have ln := hps.len
      simp only [rn] at r
      split at r
      case isFalse => cases r
      rename_i d00
      obtain ⟨p, hpp, r⟩ := rnAt_some r
      have hi : d0.toNat < vs.length := by rw [ln]; exact (List.getElem?_eq_some_iff.mp hpp).1
      have hv0 : vs[d0.toNat]? = some vs[d0.toNat] := List.getElem?_eq_getElem hi
      obtain ⟨p', hp', pv⟩ := hps.at hv0
      cases hpp.symm.trans hp'
      walk_at "go"
      refine g_ixT (SqT.of ha) rfl ?_
      walk_at "go"
      refine g_ixT (SqT.of ha) rfl ?_
      walk_at "go"
      refine g_ixT (SqT.of ha) rfl ?_
      walk_at "go"
      refine g_ixT (SqT.of ha) rfl ?_
      walk_at "go"
      refine g_ixT (SqT.of ha) rfl ?_
      walk_at "go"
      refine g_ixL (v := .int d0) (SqL.of hL) (at_of (j := 0) rfl rfl) ?_
      refine g_ixT (v := vs[d0.toNat]) (SqT.of hc) (at_of (j := d0.toNat) (by omega) hv0) ?_
      walk_at "go"
      intro p1 h1
      walk_at "go"
      have s1 : Same H (upd H p1 (.tup [vs[d0.toNat]])) := same_new h1
      refine g_ixT (SqT.of (s1 _ _ ha)) rfl ?_
      walk_at "go"
      refine g_ixT (SqT.of (s1 _ _ ha)) rfl ?_
      walk_at "go"
      refine g_slL (SqL.of (s1 _ _ hL)) fun p2 h2 => ?_
      have s2 := s1.trans (same_new (o := .lst (cutV ((d0 :: ds0).map V.int) (some 1) none)) h2)
      have t0 := same_new (o := .lst (cutV ((d0 :: ds0).map V.int) (some 1) none)) h2 _ _ (upd_same (H := H) (a := p1) (o := .tup [vs[d0.toNat]]))
      walk_at "go"
      refine w_tup (xs := [vs[d0.toNat]]) (fun i σ H' => ∃ (LA' : Addr) (v5 : Option V) (np ds1 : List Int) (t1 : Int), σ = [some (.ref a), some (.ref LA'), some (.ref PA), some (.int t1), some (.ref p1), v5] ∧ Frm PA H H' ∧ H' p1 = some (.tup [vs[d0.toNat]]) ∧ H' LA' = some (.lst (ds1.map V.int)) ∧ LA' ≠ PA ∧ H' PA = some (.lst ((ps ++ np).map V.int)) ∧
        rns ([p].take i) ds0 t = some (np, ds1, t1) ∧ ∃ np2, rns ([p].drop i) ds1 t1 = some (np2, ds', t') ∧ np ++ np2 = nq) ?_ ?_ ?_ ?_
      · exact ⟨p2, _, [], ds0, t, rfl, .of s2, t0, (by rw [upd_same, cut1]; rfl), (ne_of_none (s1 _ _ hP) h2).symm, by rw [List.append_nil]; exact s2 _ _ hP, by simp only [List.take_zero, rns], nq, by rw [List.drop_zero]; exact rns_one r, rfl⟩
      · rintro i σ H' _ ⟨LA', v5, np, ds1, t1, _, f, tp0, _⟩
        exact SqT.of tp0
      · rintro i v σ H' hv ⟨LA', v5, np, ds1, t1, rfl, f, tp0, la1, ne1, pa1, r1, np2, r2, e2⟩
        obtain ⟨q1, hq, pv⟩ := (PlAs.cons pv .nil).at hv
        rw [drop_at hq, rns] at r2
        obtain ⟨a2, d2, t2, b2, g1, g2, rfl⟩ := seqR_inv r2
        have le2 : (ps ++ np).length + a2.length ≤ 50000 := by
          rw [← e2, List.length_append, List.length_append] at sz
          rw [List.length_append]
          omega
        walk_at "go"
        refine use_done (PlA_keep (keepT_of_frm hP f) _ _ pv) (okPs_at (show okPs d l [p] from ⟨okPs_at ok.2.2 hpp, trivial⟩) hq) la1 ne1 pa1 g1 le2 fun H2 R L2 f2 hR hL2 nL hp2 => ?_
        walk_at "go"
        refine g_gtup (SqT.of hR) rfl ?_
        walk_at "go"
        refine ⟨L2, _, np ++ a2, d2, t2, rfl, f.trans f2, f2 _ _ (ne_of tp0 pa1 (fun z => nomatch z)) tp0, hL2, nL, by rw [← List.append_assoc]; exact hp2, ?_, b2, g2, by rw [List.append_assoc]; exact e2⟩
        rw [take_snoc hq]
        exact rns_snoc r1 g1
      · rintro σ H' ⟨LA', v5, np, ds1, t1, rfl, f, tp0, la1, ne1, pa1, r1, np2, r2, e2⟩
        rw [show [vs[d0.toNat]].length = [p].length from rfl, List.drop_length, rns] at r2
        obtain ⟨rfl, rfl, rfl⟩ : [] = np2 ∧ ds1 = ds' ∧ t1 = t' := by
          have := Option.some.inj r2
          simp only [Prod.mk.injEq] at this
          exact this
        rw [List.append_nil] at e2
        subst e2
        walk_at "go"
        intro R hR
        exact q _ R LA' (f.trans (.new hR)) upd_same (same_new hR _ _ la1) ne1 (same_new hR _ _ pa1)
    | @loop a x y u p ha hu =>
      match d, ok, g_law_done with
      | 0, ok, _ => unfold okP at ok; exact ok.elim
      | d + 1, ok, g_law_done =>
      match l, ok with
      | 0, ok => unfold okP at ok; exact ok.elim
      | l + 1, ok =>
      match ds, hL, r with
      | [], hL, r => simp only [rn] at r; cases r
      | d0 :: ds0, hL, r =>
      unfold okP at ok
      simp only [rn] at r
      split at r
      case isFalse => cases r
      rename_i bd
      rw [iter_rep] at r
      have plu := PlAs.rep hu d0.toNat
      have lnu := plu.len
      have oku := okPs_rep ok.2.2.2 d0.toNat
      walk_at "go"
      refine g_ixT (SqT.of ha) rfl ?_
      walk_at "go"
      refine g_ixT (SqT.of ha) rfl ?_
      walk_at "go"
      refine g_ixT (SqT.of ha) rfl ?_
      walk_at "go"
      refine g_ixT (SqT.of ha) rfl ?_
      walk_at "go"
      refine g_ixT (SqT.of ha) rfl ?_
      walk_at "go"
      refine g_ixT (SqT.of ha) rfl ?_
      walk_at "go"
      intro p1 h1
      have s1 : Same H (upd H p1 (.tup [u])) := same_new h1
      have t1 : (upd H p1 (.tup [u])) p1 = some (.tup [u]) := upd_same
      walk_at "go"
      refine g_ixL (v := .int d0) (SqL.of (s1 _ _ hL)) (at_of (j := 0) rfl rfl) ?_
      refine ⟨p1, d0, [u], rfl, rfl, SqT.of t1, List.cons_ne_nil _ _, by omega, by omega, by show 1 ≤ 1000; decide, fun k1 => ?_, fun k1 p3 h3 => ?_⟩
      · subst k1
        have t1 : (upd H p1 (.tup [u])) p1 = some (.tup (List.replicate (1 : Int).toNat [u]).flatten) := t1
        walk_at "go"
        refine g_ixT (SqT.of (s1 _ _ ha)) rfl ?_
        walk_at "go"
        refine g_slL (SqL.of (s1 _ _ hL)) fun p2 h2 => ?_
        have s2 := s1.trans (same_new (o := .lst (cutV ((1 :: ds0).map V.int) (some 1) none)) h2)
        have t0 := same_new (o := .lst (cutV ((1 :: ds0).map V.int) (some 1) none)) h2 _ _ t1
        walk_at "go"
        refine w_tup (xs := (List.replicate (1 : Int).toNat [u]).flatten) (fun i σ H' => ∃ (LA' : Addr) (v5 : Option V) (np ds1 : List Int) (t1 : Int), σ = [some (.ref a), some (.ref LA'), some (.ref PA), some (.int t1), some (.ref p1), v5] ∧ Frm PA H H' ∧ H' p1 = some (.tup (List.replicate (1 : Int).toNat [u]).flatten) ∧ H' LA' = some (.lst (ds1.map V.int)) ∧ LA' ≠ PA ∧ H' PA = some (.lst ((ps ++ np).map V.int)) ∧
          rns ((List.replicate (1 : Int).toNat p).take i) ds0 t = some (np, ds1, t1) ∧ ∃ np2, rns ((List.replicate (1 : Int).toNat p).drop i) ds1 t1 = some (np2, ds', t') ∧ np ++ np2 = nq) ?_ ?_ ?_ ?_
        · exact ⟨p2, _, [], ds0, t, rfl, .of s2, t0, (by rw [upd_same, cut1]; rfl), (ne_of_none (s1 _ _ hP) h2).symm, by rw [List.append_nil]; exact s2 _ _ hP, by simp only [List.take_zero, rns], nq, by rw [List.drop_zero]; exact r, rfl⟩
        · rintro i σ H' _ ⟨LA', v5, np, ds1, t1, _, f, tp0, _⟩
          exact SqT.of tp0
        · rintro i v σ H' hv ⟨LA', v5, np, ds1, t1, rfl, f, tp0, la1, ne1, pa1, r1, np2, r2, e2⟩
          obtain ⟨q1, hq, pv⟩ := (plu).at hv
          rw [drop_at hq, rns] at r2
          obtain ⟨a2, d2, t2, b2, g1, g2, rfl⟩ := seqR_inv r2
          have le2 : (ps ++ np).length + a2.length ≤ 50000 := by
            rw [← e2, List.length_append, List.length_append] at sz
            rw [List.length_append]
            omega
          walk_at "go"
          refine use_done (PlA_keep (keepT_of_frm hP f) _ _ pv) (okPs_at oku hq) la1 ne1 pa1 g1 le2 fun H2 R L2 f2 hR hL2 nL hp2 => ?_
          walk_at "go"
          refine g_gtup (SqT.of hR) rfl ?_
          walk_at "go"
          refine ⟨L2, _, np ++ a2, d2, t2, rfl, f.trans f2, f2 _ _ (ne_of tp0 pa1 (fun z => nomatch z)) tp0, hL2, nL, by rw [← List.append_assoc]; exact hp2, ?_, b2, g2, by rw [List.append_assoc]; exact e2⟩
          rw [take_snoc hq]
          exact rns_snoc r1 g1
        · rintro σ H' ⟨LA', v5, np, ds1, t1, rfl, f, tp0, la1, ne1, pa1, r1, np2, r2, e2⟩
          rw [lnu, List.drop_length, rns] at r2
          obtain ⟨rfl, rfl, rfl⟩ : [] = np2 ∧ ds1 = ds' ∧ t1 = t' := by
            have := Option.some.inj r2
            simp only [Prod.mk.injEq] at this
            exact this
          rw [List.append_nil] at e2
          subst e2
          walk_at "go"
          intro R hR
          exact q _ R LA' (f.trans (.new hR)) upd_same (same_new hR _ _ la1) ne1 (same_new hR _ _ pa1)
      · have s3 := s1.trans (same_new (o := .tup (List.replicate d0.toNat [u]).flatten) h3)
        walk_at "go"
        refine g_ixT (SqT.of (s3 _ _ ha)) rfl ?_
        walk_at "go"
        refine g_slL (SqL.of (s3 _ _ hL)) fun p2 h2 => ?_
        have s2 := s3.trans (same_new (o := .lst (cutV ((d0 :: ds0).map V.int) (some 1) none)) h2)
        have t0 := same_new (o := .lst (cutV ((d0 :: ds0).map V.int) (some 1) none)) h2 _ _ (upd_same (H := upd H p1 (.tup [u])) (a := p3) (o := .tup (List.replicate d0.toNat [u]).flatten))
        walk_at "go"
        refine w_tup (xs := (List.replicate d0.toNat [u]).flatten) (fun i σ H' => ∃ (LA' : Addr) (v5 : Option V) (np ds1 : List Int) (t1 : Int), σ = [some (.ref a), some (.ref LA'), some (.ref PA), some (.int t1), some (.ref p3), v5] ∧ Frm PA H H' ∧ H' p3 = some (.tup (List.replicate d0.toNat [u]).flatten) ∧ H' LA' = some (.lst (ds1.map V.int)) ∧ LA' ≠ PA ∧ H' PA = some (.lst ((ps ++ np).map V.int)) ∧
          rns ((List.replicate d0.toNat p).take i) ds0 t = some (np, ds1, t1) ∧ ∃ np2, rns ((List.replicate d0.toNat p).drop i) ds1 t1 = some (np2, ds', t') ∧ np ++ np2 = nq) ?_ ?_ ?_ ?_
        · exact ⟨p2, _, [], ds0, t, rfl, .of s2, t0, (by rw [upd_same, cut1]; rfl), (ne_of_none (s3 _ _ hP) h2).symm, by rw [List.append_nil]; exact s2 _ _ hP, by simp only [List.take_zero, rns], nq, by rw [List.drop_zero]; exact r, rfl⟩
        · rintro i σ H' _ ⟨LA', v5, np, ds1, t1, _, f, tp0, _⟩
          exact SqT.of tp0
        · rintro i v σ H' hv ⟨LA', v5, np, ds1, t1, rfl, f, tp0, la1, ne1, pa1, r1, np2, r2, e2⟩
          obtain ⟨q1, hq, pv⟩ := (plu).at hv
          rw [drop_at hq, rns] at r2
          obtain ⟨a2, d2, t2, b2, g1, g2, rfl⟩ := seqR_inv r2
          have le2 : (ps ++ np).length + a2.length ≤ 50000 := by
            rw [← e2, List.length_append, List.length_append] at sz
            rw [List.length_append]
            omega
          walk_at "go"
          refine use_done (PlA_keep (keepT_of_frm hP f) _ _ pv) (okPs_at oku hq) la1 ne1 pa1 g1 le2 fun H2 R L2 f2 hR hL2 nL hp2 => ?_
          walk_at "go"
          refine g_gtup (SqT.of hR) rfl ?_
          walk_at "go"
          refine ⟨L2, _, np ++ a2, d2, t2, rfl, f.trans f2, f2 _ _ (ne_of tp0 pa1 (fun z => nomatch z)) tp0, hL2, nL, by rw [← List.append_assoc]; exact hp2, ?_, b2, g2, by rw [List.append_assoc]; exact e2⟩
          rw [take_snoc hq]
          exact rns_snoc r1 g1
        · rintro σ H' ⟨LA', v5, np, ds1, t1, rfl, f, tp0, la1, ne1, pa1, r1, np2, r2, e2⟩
          rw [lnu, List.drop_length, rns] at r2
          obtain ⟨rfl, rfl, rfl⟩ : [] = np2 ∧ ds1 = ds' ∧ t1 = t' := by
            have := Option.some.inj r2
            simp only [Prod.mk.injEq] at this
            exact this
          rw [List.append_nil] at e2
          subst e2
          walk_at "go"
          intro R hR
          exact q _ R LA' (f.trans (.new hR)) upd_same (same_new hR _ _ la1) ne1 (same_new hR _ _ pa1)
theorem ok_done (T : Txt K mg) {f : Addr} {fd : FuncData} (D : C8.Def K mg "_law_done" s_law_done f fd) (b : Binds K fd ["_law_plan_here", "_law_delays_here", "_law_pats", "_law_now"] []) : ∀ n : Nat, C8.Cal P w K mg base (n + 1) "_law_done" (sp_done K n) []
  | 0 => ⟨f, fd, ["_law_plan_here", "_law_delays_here", "_law_pats", "_law_now"], [], ⟨fun _ _ _ _ h => h.elim, fun _ _ _ _ _ _ _ _ _ _ _ _ _ h => h.elim⟩, D.mgf, D.kp, b, .nil⟩
  | n + 1 => done_step T D b (ok_done T D b n)
end
end K03
namespace K03
open PySem PySem.Spec PyProof.Rows L2 Wd
/-- .. and what the program's own text names -/
structure TxtP (K : PySem.W.Frag) (mg : Str → Option Value) : Prop extends Txt K mg where
  k_LONGEST_WORK : ∃ t, mg "LONGEST_WORK" = some (.int 1000 t)
  k_MOST_TIMES : ∃ t, mg "MOST_TIMES" = some (.int 9 t)
  k_LONGEST_ROW : ∃ t, mg "LONGEST_ROW" = some (.int 20 t)
  k_MOST_PLANS : ∃ t, mg "MOST_PLANS" = some (.int 30 t)
  k_MOST_DEEP : ∃ t, mg "MOST_DEEP" = some (.int 6 t)
  k_MOST_LOOPS : ∃ t, mg "MOST_LOOPS" = some (.int 2 t)
section
variable {P : Program} {w : World} {K : PySem.W.Frag} {mg : Str → Option Value} {base : Heap}
theorem g_truT {H : Hp} {p : Addr} {xs : List V} {QB : Bool → Hp → Prop} (h : SqT K H p xs) (q : QB (!xs.isEmpty) H) : ∃ k, TruV K (.ref p) H k ∧ QB k H := ⟨_, .inr (.inl ⟨xs, h, rfl⟩), q⟩
theorem g_truL {H : Hp} {p : Addr} {xs : List V} {QB : Bool → Hp → Prop} (h : SqL K H p xs) (q : QB (!xs.isEmpty) H) : ∃ k, TruV K (.ref p) H k ∧ QB k H := ⟨_, .inl ⟨xs, h, rfl⟩, q⟩
abbrev s_is_number : Stmt := top 5
theorem sc_is_number : FnScope ["value"] ["value"] (C8.fnScope s_is_number) := C8.fnScope_by (by decide +kernel)
def sp_is_number : Sp := fun vs H Q _ => ∃ i : Int, vs = [.int i] ∧ Q (.bl true) H
theorem ok_is_number (T : TxtP K mg) {f : Addr} {fd : FuncData} (D : C8.Def K mg "is_number" s_is_number f fd) (b : Binds K fd ["value"] []) : C8.Cal P w K mg base 1 "is_number" sp_is_number [] := by
  refine C8.cal0 D b .nil sc_is_number (fun vs H Q E h => ?_) fun cdv A outer s H vs Q E hr h => ?_
  · obtain ⟨i, rfl, _⟩ := h; rfl
  · obtain ⟨i, rfl, q⟩ := h
    have nd := sc_is_number.nd
    refine ⟨_, (pss_one (ps_ret (pe_and (pe_callB (r := rIsi K) call_isi (by rfl) T.n_isinstance (by decide +kernel) (pa_cons (pv 0) (pa_cons (pe_bltn (v := .ty "int") (by rfl) T.n_int (by decide +kernel) rfl) pa_nil))) (pe_one (pe_not (pe_callB (r := rIsi K) call_isi (by rfl) T.n_isinstance (by decide +kernel) (pa_cons (pv 0) (pa_cons (pe_bltn (v := .ty "bool") (by rfl) T.n_bool (by decide +kernel) rfl) pa_nil)))))))), ?_⟩
    walk_at "go"
    refine g_isi (.ty "int") (.base (.int i)) (kit_ty (r := true) (by decide +kernel)) ?_
    walk_at "go"
    refine g_isi (.ty "bool") (.base (.int i)) (kit_ty (r := false) (by decide +kernel)) ?_
    walk_at "go"
    exact q

abbrev s_is_range : Stmt := top 6
theorem sc_is_range : FnScope ["least", "most", "limit"] ["least", "most", "limit"] (C8.fnScope s_is_range) := C8.fnScope_by (by decide +kernel)
def sp_is_range : Sp := fun vs H Q _ => ∃ i j k : Int, vs = [.int i, .int j, .int k] ∧ (0 ≤ i ∧ i ≤ j ∧ j ≤ k) ∧ Q (.bl true) H
theorem ok_is_range (T : TxtP K mg) {f : Addr} {fd : FuncData} (D : C8.Def K mg "is_range" s_is_range f fd) (b : Binds K fd ["least", "most", "limit"] []) (g_is_number : C8.Cal P w K mg base 1 "is_number" sp_is_number []) : C8.Cal P w K mg base 2 "is_range" sp_is_range [] := by
  refine C8.cal0 D b .nil sc_is_range (fun vs H Q E h => ?_) fun cdv A outer s H vs Q E hr h => ?_
  · obtain ⟨i, j, k, rfl, _⟩ := h; rfl
  · obtain ⟨i, j, k, rfl, ⟨h1, h2, h3⟩, q⟩ := h
    have nd := sc_is_range.nd
    refine ⟨_, (pss_one (ps_ret (pe_and (C8.pe_c g_is_number hr (by first | decide | exact Nat.le_refl _ | omega) (by rfl) (pa_cons (pv 0) pa_nil)) (pe_and (C8.pe_c g_is_number hr (by first | decide | exact Nat.le_refl _ | omega) (by rfl) (pa_cons (pv 1) pa_nil)) (pe_one (pe_chain3 op_le op_le op_le pe_int (pv 0) (pv 1) (pv 2))))))), ?_⟩
    walk_at "go"
    refine ⟨i, rfl, ?_⟩
    walk_at "go"
    refine ⟨j, rfl, ?_⟩
    walk_at "go"
    refine g_ite (fun _ => ?_) (fun h => absurd h1 h)
    walk_at "go"
    refine g_ite (fun _ => ?_) (fun h => absurd h2 h)
    walk_at "go"
    rw [decide_eq_true h3]
    exact q

abbrev s_has_form : Stmt := top 14
theorem sc_has_form : FnScope ["plan", "word"] ["plan"] (C8.fnScope s_has_form) := C8.fnScope_by (by decide +kernel)
def sp_has_form (K : PySem.W.Frag) : Sp := fun vs H Q _ => ∃ (v : V) (p : Pl) (d l : Nat), vs = [v] ∧ PlA H v p ∧ okP d l p ∧ Q (.bl true) H
theorem ok_has_form (T : TxtP K mg) {f : Addr} {fd : FuncData} (D : C8.Def K mg "has_form" s_has_form f fd) (b : Binds K fd ["plan"] []) (g_is_range : C8.Cal P w K mg base 2 "is_range" sp_is_range []) : C8.Cal P w K mg base 3 "has_form" (sp_has_form K) [] := by
  refine C8.cal0 D b .nil sc_has_form (fun vs H Q E h => ?_) fun cdv A outer s H vs Q E hr h => ?_
  · obtain ⟨v, p, d, l, rfl, _⟩ := h; rfl
  · obtain ⟨v, p, d, l, rfl, hp, ok, q⟩ := h
    have nd := sc_has_form.nd
    obtain ⟨_, c_LONGEST_WORK⟩ := T.k_LONGEST_WORK
    obtain ⟨_, c_MOST_TIMES⟩ := T.k_MOST_TIMES
    obtain ⟨_, c_LONGEST_ROW⟩ := T.k_LONGEST_ROW
    refine ⟨_, (pss_cons (ps_if (PW.pt (pw_or (pt_not (pt_val (pe_callB (r := rIsi K) call_isi (by rfl) T.n_isinstance (by decide +kernel) (pa_cons (pv 0) (pa_cons (pe_bltn (v := .ty "tuple") (by rfl) T.n_tuple (by decide +kernel) rfl) pa_nil))))) (pw_or1 (pt_not (pt_truth (pv 0) (by intro _; rfl)))))) (pss_one (ps_ret pe_bl)) pss_nil)
      (pss_cons (ps_set (i := 1) nd rfl (Or.inl rfl) (pe_ix (r := rIxT K) ix_tup (pv 0) pe_int (fun _ _ => rfl)))
      (pss_cons (ps_if (pt_cmpR op_eq (pv 1) pe_str (nomark _)) (pss_one (ps_ret (pe_cmpR op_eq (pe_callB (r := Wd.rLen K) call_len1 (by rfl) T.n_len PySem.boot_len (pa_cons (pv 0) pa_nil)) pe_int (nomark _)))) pss_nil)
      (pss_cons (ps_if (pt_cmpR op_eq (pv 1) pe_str (nomark _)) (pss_one (ps_ret (pe_and (pe_cmpR op_eq (pe_callB (r := Wd.rLen K) call_len1 (by rfl) T.n_len PySem.boot_len (pa_cons (pv 0) pa_nil)) pe_int (nomark _)) (pe_one (C8.pe_c g_is_range hr (by first | decide | exact Nat.le_refl _ | omega) (by rfl) (pa_cons (pe_ix (r := rIxT K) ix_tup (pv 0) pe_int (fun _ _ => rfl)) (pa_cons (pe_ix (r := rIxT K) ix_tup (pv 0) pe_int (fun _ _ => rfl)) (pa_cons (pe_glob (v := .int 1000) rfl c_LONGEST_WORK ⟨_, rfl⟩) pa_nil)))))))) pss_nil)
      (pss_cons (ps_if (PW.pt (pw_or (pt_cmpR op_eq (pv 1) pe_str (nomark _)) (pw_or1 (pt_cmpR op_eq (pv 1) pe_str (nomark _))))) (pss_one (ps_ret (pe_and (pe_cmpR op_eq (pe_callB (r := Wd.rLen K) call_len1 (by rfl) T.n_len PySem.boot_len (pa_cons (pv 0) pa_nil)) pe_int (nomark _)) (pe_and (pe_callB (r := rIsi K) call_isi (by rfl) T.n_isinstance (by decide +kernel) (pa_cons (pe_ix (r := rIxT K) ix_tup (pv 0) pe_int (fun _ _ => rfl)) (pa_cons (pe_bltn (v := .ty "tuple") (by rfl) T.n_tuple (by decide +kernel) rfl) pa_nil))) (pe_one (pe_chain op_le op_le pe_int (pe_callB (r := Wd.rLen K) call_len1 (by rfl) T.n_len PySem.boot_len (pa_cons (pe_ix (r := rIxT K) ix_tup (pv 0) pe_int (fun _ _ => rfl)) pa_nil)) (pe_glob (v := .int 20) rfl c_LONGEST_ROW ⟨_, rfl⟩))))))) pss_nil)
      (pss_cons (ps_if (pt_cmpR op_eq (pv 1) pe_str (nomark _)) (pss_one (ps_ret (pe_and (pe_cmpR op_eq (pe_callB (r := Wd.rLen K) call_len1 (by rfl) T.n_len PySem.boot_len (pa_cons (pv 0) pa_nil)) pe_int (nomark _)) (pe_one (C8.pe_c g_is_range hr (by first | decide | exact Nat.le_refl _ | omega) (by rfl) (pa_cons (pe_ix (r := rIxT K) ix_tup (pv 0) pe_int (fun _ _ => rfl)) (pa_cons (pe_ix (r := rIxT K) ix_tup (pv 0) pe_int (fun _ _ => rfl)) (pa_cons (pe_glob (v := .int 9) rfl c_MOST_TIMES ⟨_, rfl⟩) pa_nil)))))))) pss_nil)
      (pss_one (ps_ret pe_bl)))))))), ?_⟩
    cases hp with
    | pat ha =>
      walk_at "go"
      refine g_isiB (.ty _) (ty_tup (SqT.of ha)) (b := true) (by decide +kernel) ?_
      walk_at "go"
      refine ⟨_, .inr (.inl ⟨_, SqT.of ha, rfl⟩), ?_⟩
      walk_at "go"
      refine g_ixT (SqT.of ha) rfl ?_
      walk_at "go"
      refine g_len (.inr (SqT.of ha)) ?_
      walk_at "go"
      exact q
    | @work a x y ha =>
      unfold okP at ok
      walk_at "go"
      refine g_isiB (.ty _) (ty_tup (SqT.of ha)) (b := true) (by decide +kernel) ?_
      walk_at "go"
      refine ⟨_, .inr (.inl ⟨_, SqT.of ha, rfl⟩), ?_⟩
      walk_at "go"
      refine g_ixT (SqT.of ha) rfl ?_
      walk_at "go"
      refine g_len (.inr (SqT.of ha)) ?_
      walk_at "go"
      refine g_ixT (SqT.of ha) rfl ?_
      walk_at "go"
      refine g_ixT (SqT.of ha) rfl ?_
      walk_at "go"
      exact ⟨x, y, 1000, rfl, ok, q⟩
    | @row a c vs ps ha hc hps =>
      match d, ok with
      | 0, ok => unfold okP at ok; exact ok.elim
      | d + 1, ok =>
      unfold okP at ok
      have ln := hps.len
      walk_at "go"
      refine g_isiB (.ty _) (ty_tup (SqT.of ha)) (b := true) (by decide +kernel) ?_
      walk_at "go"
      refine ⟨_, .inr (.inl ⟨_, SqT.of ha, rfl⟩), ?_⟩
      walk_at "go"
      refine g_ixT (SqT.of ha) rfl ?_
      walk_at "go"
      refine g_len (.inr (SqT.of ha)) ?_
      walk_at "go"
      refine g_ixT (SqT.of ha) rfl ?_
      walk_at "go"
      refine g_isiB (.ty _) (ty_tup (SqT.of hc)) (b := true) (by decide +kernel) ?_
      walk_at "go"
      refine g_ixT (SqT.of ha) rfl ?_
      walk_at "go"
      refine g_len (.inr (SqT.of hc)) ?_
      walk_at "go"
      refine g_ite (fun _ => ?_) (fun h => absurd (by omega) h)
      walk_at "go"
      rw [decide_eq_true (by omega)]
      exact q
    | @either a c vs ps ha hc hps =>
      match d, ok with
      | 0, ok => unfold okP at ok; exact ok.elim
      | d + 1, ok =>
      unfold okP at ok
      have ln := hps.len
      walk_at "go"
      refine g_isiB (.ty _) (ty_tup (SqT.of ha)) (b := true) (by decide +kernel) ?_
      walk_at "go"
      refine ⟨_, .inr (.inl ⟨_, SqT.of ha, rfl⟩), ?_⟩
      walk_at "go"
      refine g_ixT (SqT.of ha) rfl ?_
      walk_at "go"
      refine g_len (.inr (SqT.of ha)) ?_
      walk_at "go"
      refine g_ixT (SqT.of ha) rfl ?_
      walk_at "go"
      refine g_isiB (.ty _) (ty_tup (SqT.of hc)) (b := true) (by decide +kernel) ?_
      walk_at "go"
      refine g_ixT (SqT.of ha) rfl ?_
      walk_at "go"
      refine g_len (.inr (SqT.of hc)) ?_
      walk_at "go"
      refine g_ite (fun _ => ?_) (fun h => absurd (by omega) h)
      walk_at "go"
      rw [decide_eq_true (by omega)]
      exact q
    | @loop a x y u p ha hu =>
      match d, ok with
      | 0, ok => unfold okP at ok; exact ok.elim
      | d + 1, ok =>
      match l, ok with
      | 0, ok => unfold okP at ok; exact ok.elim
      | l + 1, ok =>
      unfold okP at ok
      walk_at "go"
      refine g_isiB (.ty _) (ty_tup (SqT.of ha)) (b := true) (by decide +kernel) ?_
      walk_at "go"
      refine ⟨_, .inr (.inl ⟨_, SqT.of ha, rfl⟩), ?_⟩
      walk_at "go"
      refine g_ixT (SqT.of ha) rfl ?_
      walk_at "go"
      refine g_len (.inr (SqT.of ha)) ?_
      walk_at "go"
      refine g_ixT (SqT.of ha) rfl ?_
      walk_at "go"
      refine g_ixT (SqT.of ha) rfl ?_
      walk_at "go"
      exact ⟨x, y, 9, rfl, ⟨ok.1, ok.2.1, ok.2.2.1⟩, q⟩
end
end K03
namespace K03
open PySem PySem.Spec PyProof.Rows L2 Wd
section
variable {P : Program} {w : World} {K : PySem.W.Frag} {mg : Str → Option Value} {base : Heap}
/-- the plans that a plan is made of -/
def kids : Pl → List Pl
  | .row ps => ps
  | .either ps => ps
  | .loop _ _ p => [p]
  | _ => []
abbrev s_plans_in : Stmt := top 15
theorem sc_plans_in : FnScope ["plan"] ["plan"] (C8.fnScope s_plans_in) := C8.fnScope_by (by decide +kernel)
def sp_plans_in (K : PySem.W.Frag) : Sp := fun vs H Q _ => ∃ (v : V) (p : Pl), vs = [v] ∧ PlA H v p ∧ ∀ H' t us, Same H H' → H' t = some (.tup us) → PlAs H' us (kids p) → Q (.ref t) H'
theorem ok_plans_in (T : TxtP K mg) {f : Addr} {fd : FuncData} (D : C8.Def K mg "plans_in" s_plans_in f fd) (b : Binds K fd ["plan"] []) : C8.Cal P w K mg base 1 "plans_in" (sp_plans_in K) [] := by
  refine C8.cal0 D b .nil sc_plans_in (fun vs H Q E h => ?_) fun cdv A outer s H vs Q E hr h => ?_
  · obtain ⟨v, p, rfl, _⟩ := h; rfl
  · obtain ⟨v, p, rfl, hp, q⟩ := h
    have nd := sc_plans_in.nd
    refine ⟨_, (pss_cons (ps_if (PW.pt (pw_or (pt_cmpR op_eq (pe_ix (r := rIxT K) ix_tup (pv 0) pe_int (fun _ _ => rfl)) pe_str (nomark _)) (pw_or1 (pt_cmpR op_eq (pe_ix (r := rIxT K) ix_tup (pv 0) pe_int (fun _ _ => rfl)) pe_str (nomark _))))) (pss_one (ps_ret (pe_ix (r := rIxT K) ix_tup (pv 0) pe_int (fun _ _ => rfl)))) pss_nil)
      (pss_cons (ps_if (pt_cmpR op_eq (pe_ix (r := rIxT K) ix_tup (pv 0) pe_int (fun _ _ => rfl)) pe_str (nomark _)) (pss_one (ps_ret (pe_tup (pa_cons (pe_ix (r := rIxT K) ix_tup (pv 0) pe_int (fun _ _ => rfl)) pa_nil)))) pss_nil)
      (pss_one (ps_ret (pe_tup pa_nil))))), ?_⟩
    cases hp with
    | pat ha =>
      walk_at "go"
      refine g_ixT (SqT.of ha) rfl ?_
      walk_at "go"
      refine g_ixT (SqT.of ha) rfl ?_
      walk_at "go"
      refine g_ixT (SqT.of ha) rfl ?_
      walk_at "go"
      intro t ht
      exact q _ t [] (same_new ht) upd_same .nil
    | work ha =>
      walk_at "go"
      refine g_ixT (SqT.of ha) rfl ?_
      walk_at "go"
      refine g_ixT (SqT.of ha) rfl ?_
      walk_at "go"
      refine g_ixT (SqT.of ha) rfl ?_
      walk_at "go"
      intro t ht
      exact q _ t [] (same_new ht) upd_same .nil
    | row ha hc hps =>
      walk_at "go"
      refine g_ixT (SqT.of ha) rfl ?_
      walk_at "go"
      refine g_ixT (SqT.of ha) rfl ?_
      walk_at "go"
      exact q _ _ _ (fun _ _ h => h) hc hps
    | either ha hc hps =>
      walk_at "go"
      refine g_ixT (SqT.of ha) rfl ?_
      walk_at "go"
      refine g_ixT (SqT.of ha) rfl ?_
      walk_at "go"
      refine g_ixT (SqT.of ha) rfl ?_
      walk_at "go"
      exact q _ _ _ (fun _ _ h => h) hc hps
    | @loop a x y u p ha hu =>
      walk_at "go"
      refine g_ixT (SqT.of ha) rfl ?_
      walk_at "go"
      refine g_ixT (SqT.of ha) rfl ?_
      walk_at "go"
      refine g_ixT (SqT.of ha) rfl ?_
      walk_at "go"
      refine g_ixT (SqT.of ha) rfl ?_
      walk_at "go"
      intro t ht
      exact q _ t _ (same_new ht) upd_same (.cons (PlA_keep (keepT_same (same_new ht)) _ _ hu) .nil)

/-- what waits to be looked at: of each its depth and its loops; n plans in all -/
inductive Wa (H : Hp) : List V → Nat → Prop
  | nil : Wa H [] 0
  | snoc {vs : List V} {n : Nat} {t : Addr} {v : V} {p : Pl} {deep loops : Int} {d l : Nat} : Wa H vs n → H t = some (.tup [v, .int deep, .int loops]) → PlA H v p → okP d l p → deep + d ≤ 6 → loops + l ≤ 2 → Wa H (vs ++ [.ref t]) (n + Wd.cnt p)
theorem Wa.keep {H H' : Hp} (e : KeepT H H') {vs : List V} {n : Nat} (h : Wa H vs n) : Wa H' vs n := by
  induction h with
  | nil => exact .nil
  | snoc _ h1 h2 h3 h4 h5 ih => exact .snoc ih (e _ _ h1) (PlA_keep e _ _ h2) h3 h4 h5
theorem Wa.len {H : Hp} {vs : List V} {n : Nat} (h : Wa H vs n) : vs.length ≤ n := by
  induction h with
  | nil => exact Nat.le_refl _
  | @snoc vs n t v p deep loops d l _ _ _ _ _ _ ih => rw [List.length_append, List.length_singleton]; have := cnt_pos p; omega
theorem cnt_kids : ∀ p : Pl, Wd.cnt p = 1 + Wd.cnts (kids p)
  | .pat => rfl
  | .work _ _ => rfl
  | .row _ => by simp only [Wd.cnt, kids]
  | .either _ => by simp only [Wd.cnt, kids]
  | .loop _ _ _ => by simp only [Wd.cnt, kids, Wd.cnts, Nat.add_zero]
theorem cnts_take {ps : List Pl} {i : Nat} {p : Pl} (h : ps[i]? = some p) : Wd.cnts (ps.take (i + 1)) = Wd.cnts (ps.take i) + Wd.cnt p := by
  rw [take_snoc h, cnts_app]; simp only [Wd.cnts, Nat.add_zero]
theorem Wa.inv {H : Hp} {xs : List V} {n : Nat} (h : Wa H xs n) : (xs = [] ∧ n = 0) ∨ ∃ (vs : List V) (m : Nat) (t : Addr) (v : V) (p : Pl) (deep loops : Int) (d l : Nat), xs = vs ++ [.ref t] ∧ n = m + Wd.cnt p ∧ Wa H vs m ∧ H t = some (.tup [v, .int deep, .int loops]) ∧ PlA H v p ∧ okP d l p ∧ deep + d ≤ 6 ∧ loops + l ≤ 2 := by
  cases h with
  | nil => exact .inl ⟨rfl, rfl⟩
  | snoc h1 h2 h3 h4 h5 h6 => exact .inr ⟨_, _, _, _, _, _, _, _, _, rfl, rfl, h1, h2, h3, h4, h5, h6⟩
theorem cnts_take_le : ∀ (ps : List Pl) (i : Nat), Wd.cnts (ps.take i) ≤ Wd.cnts ps
  | [], i => by rw [List.take_nil]; exact Nat.le_refl _
  | p :: ps, 0 => Nat.zero_le _
  | p :: ps, i + 1 => by have := cnts_take_le ps i; simp only [List.take_succ_cons, Wd.cnts]; omega
def word : Pl → Str
  | .pat => "pat"
  | .work _ _ => "work"
  | .row _ => "row"
  | .either _ => "either"
  | .loop _ _ _ => "loop"
def lp : Pl → Nat
  | .loop _ _ _ => 1
  | _ => 0
theorem word_at {H : Hp} {v : V} {p : Pl} (h : PlA H v p) : ∃ a xs, v = .ref a ∧ H a = some (.tup (.str (word p) :: xs)) := by
  cases h with
  | pat h => exact ⟨_, _, rfl, h⟩
  | work h => exact ⟨_, _, rfl, h⟩
  | row h _ _ => exact ⟨_, _, rfl, h⟩
  | either h _ _ => exact ⟨_, _, rfl, h⟩
  | loop h _ => exact ⟨_, _, rfl, h⟩
theorem lp_yes {p : Pl} (h : word p = "loop") : lp p = 1 := by
  cases p with
  | loop _ _ _ => rfl
  | pat => exact absurd h (by decide)
  | work _ _ => exact absurd h (by decide : ¬ (Str.ofString "work" = Str.ofString "loop"))
  | row _ => exact absurd h (by decide : ¬ (Str.ofString "row" = Str.ofString "loop"))
  | either _ => exact absurd h (by decide : ¬ (Str.ofString "either" = Str.ofString "loop"))
theorem lp_no {p : Pl} (h : ¬ word p = "loop") : lp p = 0 := by
  cases p with
  | loop _ _ _ => exact absurd rfl h
  | pat => rfl
  | work _ _ => rfl
  | row _ => rfl
  | either _ => rfl
theorem kids_ok : ∀ {p : Pl} {d l : Nat}, okP d l p → lp p ≤ l ∧ (kids p = [] ∨ ∃ d', d = d' + 1 ∧ okPs d' (l - lp p) (kids p))
  | .pat, _, _, _ => ⟨Nat.zero_le _, .inl rfl⟩
  | .work _ _, _, _, _ => ⟨Nat.zero_le _, .inl rfl⟩
  | .row _, 0, _, h => by unfold okP at h; exact h.elim
  | .row ps, d + 1, l, h => by unfold okP at h; exact ⟨Nat.zero_le _, .inr ⟨d, rfl, h.2.2⟩⟩
  | .either _, 0, _, h => by unfold okP at h; exact h.elim
  | .either ps, d + 1, l, h => by unfold okP at h; exact ⟨Nat.zero_le _, .inr ⟨d, rfl, h.2.2⟩⟩
  | .loop _ _ _, 0, _, h => by unfold okP at h; exact h.elim
  | .loop _ _ _, d + 1, 0, h => by unfold okP at h; exact h.elim
  | .loop _ _ p, d + 1, l + 1, h => by unfold okP at h; exact ⟨Nat.le_add_left _ _, .inr ⟨d, rfl, by show okPs d l [p]; unfold okPs; exact ⟨h.2.2.2, by unfold okPs; trivial⟩⟩⟩
abbrev s_check_plan : Stmt := top 16
theorem sc_check_plan : FnScope ["plan", "waiting", "many", "part", "deep", "loops", "inner"] ["plan"] (C8.fnScope s_check_plan) := C8.fnScope_by (by decide +kernel)
def sp_check_plan (K : PySem.W.Frag) : Sp := fun vs H Q _ => ∃ (v : V) (p : Pl) (d l : Nat), vs = [v] ∧ PlA H v p ∧ okP d l p ∧ d ≤ 5 ∧ l ≤ 2 ∧ cnt p ≤ 30 ∧ ∀ H', Same H H' → Q .non H'
theorem ok_check_plan (T : TxtP K mg) {f : Addr} {fd : FuncData} (D : C8.Def K mg "check_plan" s_check_plan f fd) (b : Binds K fd ["plan"] []) (g_has_form : C8.Cal P w K mg base 3 "has_form" (sp_has_form K) []) (g_plans_in : C8.Cal P w K mg base 1 "plans_in" (sp_plans_in K) []) :
    C8.Cal P w K mg base 4 "check_plan" (sp_check_plan K) [] := by
  refine C8.cal0 D b .nil sc_check_plan (fun vs H Q E h => ?_) fun cdv A outer s H vs Q E hr h => ?_
  · obtain ⟨v, p, d, l, rfl, _⟩ := h; rfl
  · obtain ⟨v, p0, d, l, rfl, hp, ok, hd, hl, hc, q⟩ := h
    have nd := sc_check_plan.nd
    obtain ⟨_, c_MOST_PLANS⟩ := T.k_MOST_PLANS
    obtain ⟨_, c_MOST_DEEP⟩ := T.k_MOST_DEEP
    obtain ⟨_, c_MOST_LOOPS⟩ := T.k_MOST_LOOPS
    refine ⟨_, (pss_cons (ps_set (i := 1) nd rfl (Or.inl rfl) (pe_lst (pa_cons (pe_tup (pa_cons (pv 0) (pa_cons pe_int (pa_cons pe_int pa_nil)))) pa_nil)))
      (pss_cons (ps_set (i := 2) nd rfl (Or.inl rfl) pe_int)
      (pss_one (ps_while PassesOwn.never (pt_truth (pv 1) (by intro _; rfl)) (pss_cons (ps_asg (pe_bm0K (K := K) rfl PySem.F.plainAttrs_list PySem.F.slot_list_pop PySem.F.type_list_pop mt_pop (pv 1)) (pg_tup rfl (pgs_cons (pg_name (i := 3) nd rfl (Or.inl rfl)) (pgs_cons (pg_name (i := 4) nd rfl (Or.inl rfl)) (pgs_cons (pg_name (i := 5) nd rfl (Or.inl rfl)) pgs_nil)))))
      (pss_cons (ps_aug (i := 2) nd rfl (Or.inl rfl) pe_int ip_add)
      (pss_cons (ps_if (PW.pt (pw_or (pt_cmpR op_gt (pv 2) (pe_glob (v := .int 30) rfl c_MOST_PLANS ⟨_, rfl⟩) (nomark _)) (pw_or (pt_cmpR op_gt (pv 4) (pe_glob (v := .int 6) rfl c_MOST_DEEP ⟨_, rfl⟩) (nomark _)) (pw_or1 (pt_not (pt_val (C8.pe_c g_has_form hr (by first | decide | exact Nat.le_refl _ | omega) (by rfl) (pa_cons (pv 3) pa_nil)))))))) (pss_one ps_never) pss_nil)
      (pss_cons (ps_if (pt_cmpR op_eq (pe_ix (r := rIxT K) ix_tup (pv 3) pe_int (fun _ _ => rfl)) pe_str (nomark _)) (pss_one (ps_aug (i := 5) nd rfl (Or.inl rfl) pe_int ip_add)) pss_nil)
      (pss_cons (ps_if (pt_cmpR op_gt (pv 5) (pe_glob (v := .int 2) rfl c_MOST_LOOPS ⟨_, rfl⟩) (nomark _)) (pss_one ps_never) pss_nil)
      (pss_one (ps_for PassesOwn.never rfl (pi_tup (C8.pe_c g_plans_in hr (by first | decide | exact Nat.le_refl _ | omega) (by rfl) (pa_cons (pv 3) pa_nil))) (pg_name (i := 6) nd rfl (Or.inl rfl)) (pss_one (ps_expr (pe_bmK (K := K) rfl PySem.F.plainAttrs_list PySem.F.slot_list_append PySem.F.type_list_append mt_append (pv 1) (pa_cons (pe_tup (pa_cons (pv 6) (pa_cons (pe_op op_add (pv 4) pe_int) (pa_cons (pv 5) pa_nil)))) pa_nil))))))))))))))), ?_⟩
    walk_at "go"
    intro t ht
    walk_at "go"
    intro W hW
    walk_at "go"
    have hW0 : H W = none := by
      by_cases e : W = t
      · rw [e]; exact ht
      · rwa [upd_ne e] at hW
    obtain ⟨a0, xs0, rfl, _⟩ := word_at hp
    have sm0 : Same H (upd (upd H t (.tup [.ref a0, .int 1, .int 0])) W (.lst [.ref t])) := (same_new ht).trans (same_new hW)
    have hp0 : ∀ H', Same H H' → PlA H' (.ref a0) p0 := fun H' s => PlA_keep (keepT_same s) _ _ hp
    refine w_loop (fun m σ H' => ∃ (xs : List V) (many : Int) (v3 v4 v5 v6 : Option V), σ = [some (.ref a0), some (.ref W), some (.int many), v3, v4, v5, v6] ∧ Same H H' ∧ PlA H' (.ref a0) p0 ∧ H' W = some (.lst xs) ∧ Wa H' xs m ∧ 0 ≤ many ∧ many + m ≤ 30) (0 + Wd.cnt p0) ?_ ?_
    · exact ⟨_, 0, _, _, _, _, rfl, sm0, hp0 _ sm0, upd_same, .snoc (vs := []) .nil (same_new hW _ _ upd_same) (hp0 _ sm0) ok (by omega) (by omega), by decide, by omega⟩
    · rintro m σ H' ⟨xs, many, v3, v4, v5, v6, rfl, sm, hp', hWx, wa, le0, le⟩
      walk_at "go"
      rcases wa.inv with ⟨rfl, rfl⟩ | ⟨vs, n, tt0, v, p, deep, loops, d, l, rfl, rfl, wa, hE, pv, okk0, h6, h7⟩
      · refine ⟨false, .inl ⟨[], SqL.of hWx, rfl⟩, ?_⟩
        walk_at "go"
        exact q _ sm
      refine ⟨true, .inl ⟨_, SqL.of hWx, by cases vs <;> rfl⟩, ?_⟩
      refine L2.iteT ?_
      refine ⟨fun σ' H'' => ∃ m', m' < n + Wd.cnt p ∧ ∃ (xs : List V) (many : Int) (v3 v4 v5 v6 : Option V), σ' = [some (.ref a0), some (.ref W), some (.int many), v3, v4, v5, v6] ∧ Same H H'' ∧ PlA H'' (.ref a0) p0 ∧ H'' W = some (.lst xs) ∧ Wa H'' xs m' ∧ 0 ≤ many ∧ many + m' ≤ 30, fun _ _ h => h, ?_⟩
      obtain ⟨lpl, kok⟩ := kids_ok okk0
      have ck := cnt_kids p
      have len1 := wa.len
      walk_at "go"
      refine g_tyL hWx ?_
      refine g_pop hWx (y := .ref tt0) (by rw [List.length_append, List.length_singleton, Nat.add_sub_cancel, List.getElem?_append_right (Nat.le_refl _), Nat.sub_self]; rfl) ?_
      rw [List.dropLast_concat]
      have k1 : KeepT H' (upd H' W (.lst vs)) := keepT_lst hWx
      have sm1 : Same H (upd H' W (.lst vs)) := Wd.Same.mut sm hW0
      have hW1 : upd H' W (.lst vs) W = some (.lst vs) := upd_same
      have wa1 := wa.keep k1
      have pv := PlA_keep k1 _ _ pv
      refine g_gtup (SqT.of (k1 _ _ hE)) rfl ?_
      walk_at "go"
      refine ⟨_, rfl, ?_⟩
      walk_at "go"
      refine ⟨_, _, rfl, rfl, ?_⟩
      walk_at "go"
      refine g_ite (fun hx => absurd (show 30 < many + 1 from hx) (by omega)) (fun _ => ?_)
      walk_at "go"
      refine g_ite (fun hx => absurd hx (by omega)) (fun _ => ?_)
      walk_at "go"
      refine ⟨v, p, d, l, rfl, pv, okk0, ?_⟩
      walk_at "go"
      obtain ⟨av, xv, rfl, hav⟩ := word_at pv
      refine g_ixT (v := .str (word p)) (SqT.of hav) (at_of (j := 0) rfl rfl) ?_
      walk_at "go"
      generalize hv : V.ref av = v at pv ⊢
      refine g_ite (fun hw => ?_) (fun hw => ?_)
      · have lp1 := lp_yes hw
        walk_at "go"
        refine ⟨_, rfl, ?_⟩
        walk_at "go"
        refine ⟨_, _, rfl, rfl, ?_⟩
        walk_at "go"
        refine g_ite (fun hx => absurd (show 2 < loops + 1 from hx) (by omega)) (fun _ => ?_)
        walk_at "go"
        refine ⟨v, p, rfl, pv, fun H4 tt us s4 hT pk => ?_⟩
        have hW4 := s4 _ _ hW1
        have sm4 : Same H H4 := sm1.trans s4
        refine w_tup (xs := us) (fun i σ H' => ∃ (v6 : Option V) (xs : List V), σ = [some (.ref a0), some (.ref W), some (.int (many + 1)), some v, some (.int deep), some (.int (loops + 1)), v6] ∧ Same H H' ∧ H' tt = some (.tup us) ∧ PlAs H' us (kids p) ∧ H' W = some (.lst xs) ∧ Wa H' xs (n + Wd.cnts ((kids p).take i))) ?_ ?_ ?_ ?_
        · exact ⟨_, vs, rfl, sm4, hT, pk, hW4, by simpa only [List.take_zero, Wd.cnts, Nat.add_zero] using wa1.keep (keepT_same s4)⟩
        · rintro i σ H' _ ⟨v6, xs, _, _, hT', _⟩
          exact SqT.of hT'
        · rintro i u σ H' hu ⟨v6, xs, rfl, sm5, hT5, pk5, hW5, wa5⟩
          obtain ⟨q1, hq, pu⟩ := pk5.at hu
          obtain ⟨d', rfl, okk⟩ := kok.resolve_left (fun e => by rw [e] at hq; cases hq)
          have l5 := wa5.len
          have c5 := cnts_take hq
          have c6 : Wd.cnts ((kids p).take (i + 1)) ≤ Wd.cnts (kids p) := cnts_take_le _ _
          walk_at "go"
          refine g_tyL hW5 ?_
          walk_at "go"
          intro e he
          have s6 := same_new (o := .tup [u, .int (deep + 1), .int (loops + 1)]) he
          walk_at "go"
          refine g_append (s6 _ _ hW5) (by omega) ?_
          have k6 : KeepT H' (upd (upd H' e (.tup [u, .int (deep + 1), .int (loops + 1)])) W (.lst (xs ++ [.ref e]))) := (keepT_same s6).trans (keepT_lst (s6 _ _ hW5))
          walk_at "go"
          refine ⟨_, xs ++ [.ref e], rfl, Wd.Same.mut (sm5.trans s6) hW0, ?_, PlAs_keep k6 _ _ pk5, upd_same, ?_⟩
          · exact k6 _ _ hT5
          · rw [c5, ← Nat.add_assoc]
            exact .snoc (wa5.keep k6) (keepT_lst (s6 _ _ hW5) _ _ upd_same) (PlA_keep k6 _ _ pu) (okPs_at okk hq) (by omega) (by omega)
        · rintro σ H' ⟨v6, xs, rfl, sm5, hT5, pk5, hW5, wa5⟩
          rw [pk5.len, List.take_length] at wa5
          walk_at "go"
          exact ⟨_, by omega, xs, _, _, _, _, _, rfl, sm5, hp0 _ sm5, hW5, wa5, (show 0 ≤ many + 1 by omega), (show many + 1 + ((n + Wd.cnts (kids p) : Nat) : Int) ≤ 30 by omega)⟩
      · have lp0 := lp_no hw
        walk_at "go"
        refine g_ite (fun hx => absurd (show 2 < loops from hx) (by omega)) (fun _ => ?_)
        walk_at "go"
        refine ⟨v, p, rfl, pv, fun H4 tt us s4 hT pk => ?_⟩
        have hW4 := s4 _ _ hW1
        have sm4 : Same H H4 := sm1.trans s4
        refine w_tup (xs := us) (fun i σ H' => ∃ (v6 : Option V) (xs : List V), σ = [some (.ref a0), some (.ref W), some (.int (many + 1)), some v, some (.int deep), some (.int loops), v6] ∧ Same H H' ∧ H' tt = some (.tup us) ∧ PlAs H' us (kids p) ∧ H' W = some (.lst xs) ∧ Wa H' xs (n + Wd.cnts ((kids p).take i))) ?_ ?_ ?_ ?_
        · exact ⟨_, vs, rfl, sm4, hT, pk, hW4, by simpa only [List.take_zero, Wd.cnts, Nat.add_zero] using wa1.keep (keepT_same s4)⟩
        · rintro i σ H' _ ⟨v6, xs, _, _, hT', _⟩
          exact SqT.of hT'
        · rintro i u σ H' hu ⟨v6, xs, rfl, sm5, hT5, pk5, hW5, wa5⟩
          obtain ⟨q1, hq, pu⟩ := pk5.at hu
          obtain ⟨d', rfl, okk⟩ := kok.resolve_left (fun e => by rw [e] at hq; cases hq)
          have l5 := wa5.len
          have c5 := cnts_take hq
          have c6 : Wd.cnts ((kids p).take (i + 1)) ≤ Wd.cnts (kids p) := cnts_take_le _ _
          walk_at "go"
          refine g_tyL hW5 ?_
          walk_at "go"
          intro e he
          have s6 := same_new (o := .tup [u, .int (deep + 1), .int loops]) he
          walk_at "go"
          refine g_append (s6 _ _ hW5) (by omega) ?_
          have k6 : KeepT H' (upd (upd H' e (.tup [u, .int (deep + 1), .int loops])) W (.lst (xs ++ [.ref e]))) := (keepT_same s6).trans (keepT_lst (s6 _ _ hW5))
          walk_at "go"
          refine ⟨_, xs ++ [.ref e], rfl, Wd.Same.mut (sm5.trans s6) hW0, ?_, PlAs_keep k6 _ _ pk5, upd_same, ?_⟩
          · exact k6 _ _ hT5
          · rw [c5, ← Nat.add_assoc]
            exact .snoc (wa5.keep k6) (keepT_lst (s6 _ _ hW5) _ _ upd_same) (PlA_keep k6 _ _ pu) (okPs_at okk hq) (by omega) (by omega)
        · rintro σ H' ⟨v6, xs, rfl, sm5, hT5, pk5, hW5, wa5⟩
          rw [pk5.len, List.take_length] at wa5
          walk_at "go"
          exact ⟨_, by omega, xs, _, _, _, _, _, rfl, sm5, hp0 _ sm5, hW5, wa5, (show 0 ≤ many + 1 by omega), (show many + 1 + ((n + Wd.cnts (kids p) : Nat) : Int) ≤ 30 by omega)⟩
end
end K03
namespace K03
open PySem PySem.Spec PyProof.Rows L2 Wd
/-! ### a run -/
structure TxtR (K : PySem.W.Frag) (CR : Addr) : Prop where
  c : Cls K CR
  nD : NoAttr K CR "delays"
  nU : NoAttr K CR "used"
  nN : NoAttr K CR "now"
  nP : NoAttr K CR "pats"
section
variable {P : Program} {w : World} {K : PySem.W.Frag} {mg : Str → Option Value} {base : Heap} {CR : Addr}
abbrev runF (LA PA : Addr) (u t : Int) : List (Str × V) := [("delays", .ref LA), ("used", .int u), ("now", .int t), ("pats", .ref PA)]
theorem lk_d {LA PA : Addr} {u t : Int} : (runF LA PA u t).lookup ("delays" : Str) = some (.ref LA) := rfl
theorem lk_u {LA PA : Addr} {u t : Int} : (runF LA PA u t).lookup ("used" : Str) = some (.int u) := rfl
theorem lk_n {LA PA : Addr} {u t : Int} : (runF LA PA u t).lookup ("now" : Str) = some (.int t) := rfl
theorem lk_p {LA PA : Addr} {u t : Int} : (runF LA PA u t).lookup ("pats" : Str) = some (.ref PA) := rfl
theorem lk_take {LA PA : Addr} {u t : Int} : (runF LA PA u t).lookup ("take" : Str) = none := rfl
theorem lk_follow {LA PA : Addr} {u t : Int} : (runF LA PA u t).lookup ("follow" : Str) = none := rfl
theorem put_u {LA PA : Addr} {u t z : Int} : putF ("used" : Str) (.int z) (runF LA PA u t) = runF LA PA z t := rfl
theorem put_n {LA PA : Addr} {u t z : Int} : putF ("now" : Str) (.int z) (runF LA PA u t) = runF LA PA u z := rfl
abbrev s_Run_init : Stmt := (C8.clsBody (top 17)).getD 0 (.Pass ⟨0, 0, 0, 0⟩)
abbrev s_Run_take : Stmt := (C8.clsBody (top 17)).getD 1 (.Pass ⟨0, 0, 0, 0⟩)
abbrev s_Run_follow : Stmt := (C8.clsBody (top 17)).getD 2 (.Pass ⟨0, 0, 0, 0⟩)
theorem sc_Run_take : FnScope ["self", "least", "most", "at", "delay"] ["self", "least", "most"] (C8.fnScope s_Run_take) := C8.fnScope_by (by decide +kernel)
def sp_take (K : PySem.W.Frag) (CR : Addr) : Sp := fun vs H Q _ => ∃ (R dx LA PA : Addr) (u : Nat) (t lo hi d : Int) (ds : List Int), vs = [.ref R, .int lo, .int hi] ∧ H R = some (.ins CR dx (runF LA PA u t)) ∧ SqL K H LA (ds.map V.int) ∧ ds[u]? = some d ∧ lo ≤ d ∧ d ≤ hi ∧
  Q (.int d) (upd H R (.ins CR dx (runF LA PA (u + 1 : Nat) t)))
theorem ok_take (T : TxtP K mg) (TR : TxtR K CR) {f : Addr} {fd : FuncData} (me : Meth K CR "take" f) (F : C8.Fun K "take" "Run.take" s_Run_take f fd) (b : Binds K fd ["self", "least", "most"] []) (g_is_number : C8.Cal P w K mg base 1 "is_number" sp_is_number []) : C8.Met P w K mg base 2 CR "take" (sp_take K CR) [] := by
  refine C8.met0 TR.c me F b sc_Run_take (fun vs H Q E h => ?_) fun cdv A outer s H vs Q E hr h => ?_
  · obtain ⟨R, dx, LA, PA, u, t, lo, hi, d, ds, rfl, _⟩ := h; rfl
  · obtain ⟨R, dx, LA, PA, u, t, lo, hi, d, ds, rfl, hR, hL, hd, h1, h2, q⟩ := h
    have nd := sc_Run_take.nd
    have hu : u < ds.length := (List.getElem?_eq_some_iff.mp hd).1
    refine ⟨_, (pss_cons (ps_set (i := 3) nd rfl (Or.inl rfl) (pe_fld (pv 0) rfl))
      (pss_cons (ps_if (pt_cmpR op_eq (pv 3) (pe_callB (r := Wd.rLen K) call_len1 (by rfl) T.n_len PySem.boot_len (pa_cons (pe_fld (pv 0) rfl) pa_nil)) (nomark _)) (pss_one ps_never) pss_nil)
      (pss_cons (ps_set (i := 4) nd rfl (Or.inl rfl) (pe_ix (r := rIxL K) ix_list (pe_fld (pv 0) rfl) (pv 3) (fun _ _ => rfl)))
      (pss_cons (ps_if (PW.pt (pw_or (pt_not (pt_val (C8.pe_c g_is_number hr (by first | decide | exact Nat.le_refl _ | omega) (by rfl) (pa_cons (pv 4) pa_nil)))) (pw_or1 (pt_not (pt_chain op_le op_le (pv 1) (pv 4) (pv 2)))))) (pss_one ps_never) pss_nil)
      (pss_cons (ps_fldaug (pv 0) pe_int in_add)
      (pss_one (ps_ret (pv 4)))))))), ?_⟩
    walk_at "go"
    refine ⟨_, rfl, R, CR, dx, _, _, rfl, hR, TR.c, TR.nU, lk_u, ?_⟩
    walk_at "go"
    refine ⟨_, rfl, R, CR, dx, _, _, rfl, hR, TR.c, TR.nD, lk_d, ?_⟩
    walk_at "go"
    refine g_len (.inl hL) ?_
    walk_at "go"
    rw [List.length_map]
    refine g_ite (fun h => absurd h (by omega)) (fun _ => ?_)
    walk_at "go"
    refine ⟨_, rfl, R, CR, dx, _, _, rfl, hR, TR.c, TR.nD, lk_d, ?_⟩
    walk_at "go"
    refine g_ixL hL (at_of (j := u) (v := .int d) rfl (by rw [List.getElem?_map, hd]; rfl)) ?_
    walk_at "go"
    refine ⟨d, rfl, ?_⟩
    walk_at "go"
    refine g_ite (fun _ => ?_) (fun h => absurd h1 h)
    walk_at "go"
    refine g_iteN (fun h => absurd h2 h) (fun _ => ?_)
    walk_at "go"
    refine ⟨_, rfl, R, CR, dx, _, _, rfl, hR, TR.c, TR.nU, lk_u, ?_⟩
    walk_at "go"
    refine ⟨_, _, rfl, rfl, ?_⟩
    refine ⟨_, _, hR, by show 4 < 1000; decide, ?_⟩
    walk_at "go"
    exact q

end
end K03
namespace K03
open PySem PySem.Spec PyProof.Rows L2 Wd
section
variable {P : Program} {w : World} {K : PySem.W.Frag} {mg : Str → Option Value} {base : Heap} {CR : Addr}
theorem Frm2.setS {S F : Addr} {H : Hp} {o : HO} : Frm2 S F H (upd H S o) := fun b u n _ h => by rw [upd_ne n]; exact h
theorem keep2 {H H' : Hp} {R PA dx : Addr} {fs : List (Str × V)} {xs : List V} (hR : H R = some (.ins CR dx fs)) (hP : H PA = some (.lst xs)) (f : Frm2 R PA H H') : KeepT H H' := fun b ys h => f b _ (ne_of h hR (fun z => nomatch z)) (ne_of h hP (fun z => nomatch z)) h
theorem drop_cons {ds : List Int} {u : Nat} {d0 : Int} {rest : List Int} (e : ds.drop u = d0 :: rest) : ds[u]? = some d0 ∧ rest = ds.drop (u + 1) ∧ u + 1 ≤ ds.length := by
  have h1 : ds[u]? = some d0 := by
    have := congrArg (fun l => l[0]?) e
    simpa using this
  have hl := (List.getElem?_eq_some_iff.mp h1).1
  refine ⟨h1, ?_, hl⟩
  rw [drop_at h1] at e
  exact (List.cons.inj e).2.symm
theorem sc_Run_follow : FnScope ["self", "plan", "word", "part", "which", "times", "turn"] ["self", "plan"] (C8.fnScope s_Run_follow) := C8.fnScope_by (by decide +kernel)
def sp_follow (K : PySem.W.Frag) (CR : Addr) : Nat → Sp
  | 0 => fun _ _ _ _ => False
  | d + 1 => fun vs H Q _ => ∃ (R dx LA PA : Addr) (u : Nat) (t : Int) (v : V) (p : Pl) (l : Nat) (ds ps nq ds' : List Int) (t' : Int), vs = [.ref R, v] ∧ PlA H v p ∧ okP d l p ∧ H R = some (.ins CR dx (runF LA PA u t)) ∧ H LA = some (.lst (ds.map V.int)) ∧ LA ≠ PA ∧ H PA = some (.lst (ps.map V.int)) ∧
    u ≤ ds.length ∧ rn p (ds.drop u) t = some (nq, ds', t') ∧ ps.length + nq.length ≤ 50000 ∧
    ∀ H' (u' : Nat), Frm2 R PA H H' → u' ≤ ds.length → ds' = ds.drop u' → H' R = some (.ins CR dx (runF LA PA u' t')) → H' PA = some (.lst ((ps ++ nq).map V.int)) → Q .non H'
theorem follow_step (T : TxtP K mg) (TR : TxtR K CR) {d : Nat} {f : Addr} {fd : FuncData} (me : Meth K CR "follow" f) (F : C8.Fun K "follow" "Run.follow" s_Run_follow f fd) (b : Binds K fd ["self", "plan"] []) (m_take : C8.Met P w K mg base 2 CR "take" (sp_take K CR) [])
    (m_follow : C8.Met P w K mg base (d + 2) CR "follow" (sp_follow K CR d) []) : C8.Met P w K mg base (d + 3) CR "follow" (sp_follow K CR (d + 1)) [] := by
  refine C8.met0 TR.c me F b sc_Run_follow (fun vs H Q E h => ?_) fun cdv A outer s H vs Q E hr h => ?_
  · obtain ⟨R, dx, LA, PA, u, t, v, p, l, ds, ps, nq, ds', t', rfl, _⟩ := h; rfl
  · obtain ⟨R, dx, LA, PA, u, t, v, p, l, ds, ps, nq, ds', t', rfl, hp, ok, hR, hL, ne, hP, hu, r, sz, q⟩ := h
    have nd := sc_Run_follow.nd
    have nRP : R ≠ PA := ne_of hR hP (fun z => nomatch z)
    have nLR : LA ≠ R := ne_of hL hR (fun z => nomatch z)
    have hr : Room (d + 2) _ := hr
    refine ⟨_, (pss_cons (ps_set (i := 2) nd rfl (Or.inl rfl) (pe_ix (r := rIxT K) ix_tup (pv 1) pe_int (fun _ _ => rfl)))
      (pss_one (ps_if (pt_cmpR op_eq (pv 2) pe_str (nomark _)) (pss_one (ps_expr (pe_bmK (K := K) rfl PySem.F.plainAttrs_list PySem.F.slot_list_append PySem.F.type_list_append mt_append (pe_fld (pv 0) rfl) (pa_cons (pe_fld (pv 0) rfl) pa_nil)))) (pss_one (ps_if (pt_cmpR op_eq (pv 2) pe_str (nomark _)) (pss_one (ps_fldaug (pv 0) (C8.pe_mt m_take hr (by first | decide | exact Nat.le_refl _ | omega) (pv 0) (pa_cons (pe_ix (r := rIxT K) ix_tup (pv 1) pe_int (fun _ _ => rfl)) (pa_cons (pe_ix (r := rIxT K) ix_tup (pv 1) pe_int (fun _ _ => rfl)) pa_nil))) in_add)) (pss_one (ps_if (pt_cmpR op_eq (pv 2) pe_str (nomark _)) (pss_one (ps_for PassesOwn.never rfl (pi_tup (pe_ix (r := rIxT K) ix_tup (pv 1) pe_int (fun _ _ => rfl))) (pg_name (i := 3) nd rfl (Or.inl rfl)) (pss_one (ps_expr (C8.pe_mt m_follow hr (by first | decide | exact Nat.le_refl _ | omega) (pv 0) (pa_cons (pv 3) pa_nil)))))) (pss_one (ps_if (pt_cmpR op_eq (pv 2) pe_str (nomark _)) (pss_cons (ps_set (i := 4) nd rfl (Or.inl rfl) (C8.pe_mt m_take hr (by first | decide | exact Nat.le_refl _ | omega) (pv 0) (pa_cons pe_int (pa_cons (pe_op op_sub (pe_callB (r := Wd.rLen K) call_len1 (by rfl) T.n_len PySem.boot_len (pa_cons (pe_ix (r := rIxT K) ix_tup (pv 1) pe_int (fun _ _ => rfl)) pa_nil)) pe_int) pa_nil))))
      (pss_one (ps_expr (C8.pe_mt m_follow hr (by first | decide | exact Nat.le_refl _ | omega) (pv 0) (pa_cons (pe_ix (r := rIxT K) ix_tup (pe_ix (r := rIxT K) ix_tup (pv 1) pe_int (fun _ _ => rfl)) (pv 4) (fun _ _ => rfl)) pa_nil))))) (pss_cons (ps_set (i := 5) nd rfl (Or.inl rfl) (C8.pe_mt m_take hr (by first | decide | exact Nat.le_refl _ | omega) (pv 0) (pa_cons (pe_ix (r := rIxT K) ix_tup (pv 1) pe_int (fun _ _ => rfl)) (pa_cons (pe_ix (r := rIxT K) ix_tup (pv 1) pe_int (fun _ _ => rfl)) pa_nil))))
      (pss_one (ps_for PassesOwn.never rfl (pi_range1 rfl T.n_range (pa_cons (pv 5) pa_nil)) (pg_name (i := 6) nd rfl (Or.inl rfl)) (pss_one (ps_expr (C8.pe_mt m_follow hr (by first | decide | exact Nat.le_refl _ | omega) (pv 0) (pa_cons (pe_ix (r := rIxT K) ix_tup (pv 1) pe_int (fun _ _ => rfl)) pa_nil)))))))))))))))), ?_⟩
    cases hp with
    | pat ha =>
      walk_at "go"
      refine g_ixT (SqT.of ha) rfl ?_
      walk_at "go"
      refine ⟨_, rfl, R, CR, dx, _, _, rfl, hR, TR.c, TR.nP, lk_p, ?_⟩
      refine g_tyL hP ?_
      walk_at "go"
      refine ⟨_, rfl, R, CR, dx, _, _, rfl, hR, TR.c, TR.nN, lk_n, ?_⟩
      walk_at "go"
      simp only [rn, Option.some.injEq, Prod.mk.injEq] at r
      obtain ⟨rfl, rfl, rfl⟩ := r
      refine g_append hP (by rw [List.length_map]; omega) ?_
      walk_at "go"
      exact q _ u .set hu rfl (by rw [upd_ne nRP]; exact hR) (by rw [upd_same, List.map_append]; rfl)
    | @work a x y ha =>
      cases e : ds.drop u with
      | nil => rw [e] at r; simp only [rn] at r; cases r
      | cons d0 rest =>
      rw [e] at r
      obtain ⟨hd, er, hu1⟩ := drop_cons e
      simp only [rn] at r
      split at r
      case isFalse => cases r
      rename_i bd
      simp only [Option.some.injEq, Prod.mk.injEq] at r
      obtain ⟨rfl, rfl, rfl⟩ := r
      walk_at "go"
      refine g_ixT (SqT.of ha) rfl ?_
      walk_at "go"
      refine ⟨_, rfl, R, CR, dx, _, _, rfl, hR, TR.c, TR.nN, lk_n, ?_⟩
      refine ⟨_, rfl, R, dx, _, rfl, hR, lk_take, ?_⟩
      walk_at "go"
      refine g_ixT (SqT.of ha) rfl ?_
      walk_at "go"
      refine g_ixT (SqT.of ha) rfl ?_
      walk_at "go"
      refine ⟨R, dx, LA, PA, u, t, x, y, d0, ds, rfl, hR, SqL.of hL, hd, bd.1, bd.2, ?_⟩
      refine ⟨_, _, rfl, rfl, dx, _, upd_same, by show 4 < 1000; decide, ?_⟩
      walk_at "go"
      exact q _ (u + 1) (Frm2.setS.trans .setS) hu1 er upd_same (by rw [upd_ne nRP.symm, upd_ne nRP.symm, List.append_nil]; exact hP)
    | @row a c vs ps' ha hc hps =>
      match d, ok, m_follow with
      | 0, ok, _ => unfold okP at ok; exact ok.elim
      | d + 1, ok, m_follow =>
      unfold okP at ok
      have ln := hps.len
      simp only [rn] at r
      walk_at "go"
      refine g_ixT (SqT.of ha) rfl ?_
      walk_at "go"
      refine g_ixT (SqT.of ha) rfl ?_
      walk_at "go"
      refine w_tup (xs := vs) (fun i σ H' => ∃ (v3 v4 v5 v6 : Option V) (u1 : Nat) (np : List Int) (t1 : Int), σ = [some (.ref R), some (.ref a), some (.str "row"), v3, v4, v5, v6] ∧ Frm2 R PA H H' ∧ u1 ≤ ds.length ∧ H' R = some (.ins CR dx (runF LA PA u1 t1)) ∧ H' PA = some (.lst ((ps ++ np).map V.int)) ∧
        ∃ np2, rns (ps'.drop i) (ds.drop u1) t1 = some (np2, ds', t') ∧ np ++ np2 = nq) ?_ ?_ ?_ ?_
      · exact ⟨_, _, _, _, u, [], t, rfl, .refl _ _ _, hu, hR, by rw [List.append_nil]; exact hP, nq, by rw [List.drop_zero]; exact r, rfl⟩
      · rintro i σ H' _ ⟨v3, v4, v5, v6, u1, np, t1, _, f, _⟩
        exact SqT.of (keep2 hR hP f _ _ hc)
      · rintro i v σ H' hv ⟨v3, v4, v5, v6, u1, np, t1, rfl, f, hu1, hR1, hP1, np2, r2, e2⟩
        obtain ⟨q1, hq, pv⟩ := hps.at hv
        rw [drop_at hq, rns] at r2
        obtain ⟨a2, d2, t2, b2, g1, g2, rfl⟩ := seqR_inv r2
        have le2 : (ps ++ np).length + a2.length ≤ 50000 := by
          rw [← e2, List.length_append, List.length_append] at sz
          rw [List.length_append]
          omega
        walk_at "go"
        refine ⟨_, rfl, R, dx, _, rfl, hR1, lk_follow, ?_⟩
        walk_at "go"
        refine ⟨R, dx, LA, PA, u1, t1, v, q1, _, ds, ps ++ np, a2, d2, t2, rfl, PlA_keep (keep2 hR hP f) _ _ pv, okPs_at ok.2.2 hq, hR1, f _ _ nLR ne hL, ne, hP1, hu1, g1, le2, fun H2 u2 f2 hu2 eu2 hR2 hP2 => ?_⟩
        subst eu2
        walk_at "go"
        exact ⟨_, _, _, _, u2, np ++ a2, t2, rfl, f.trans f2, hu2, hR2, by rw [← List.append_assoc]; exact hP2, b2, g2, by rw [List.append_assoc]; exact e2⟩
      · rintro σ H' ⟨v3, v4, v5, v6, u1, np, t1, rfl, f, hu1, hR1, hP1, np2, r2, e2⟩
        rw [ln, List.drop_length, rns] at r2
        simp only [Option.some.injEq, Prod.mk.injEq] at r2
        obtain ⟨rfl, rfl, rfl⟩ := r2
        rw [List.append_nil] at e2
        subst e2
        walk_at "go"
        exact q _ u1 f hu1 rfl hR1 hP1
    | @either a c vs ps' ha hc hps =>
      match d, ok, m_follow with
      | 0, ok, _ => unfold okP at ok; exact ok.elim
      | d + 1, ok, m_follow =>
      unfold okP at ok
      have ln := hps.len
      cases e : ds.drop u with
      | nil => rw [e] at r; simp only [rn] at r; cases r
      | cons d0 rest =>
      rw [e] at r
      obtain ⟨hd, er, hu1⟩ := drop_cons e
      simp only [rn] at r
      split at r
      case isFalse => cases r
      rename_i d00
      obtain ⟨p, hpp, r⟩ := rnAt_some r
      have hi : d0.toNat < vs.length := by rw [ln]; exact (List.getElem?_eq_some_iff.mp hpp).1
      have hv0 : vs[d0.toNat]? = some vs[d0.toNat] := List.getElem?_eq_getElem hi
      obtain ⟨p', hp', pv⟩ := hps.at hv0
      cases hpp.symm.trans hp'
      walk_at "go"
      refine g_ixT (SqT.of ha) rfl ?_
      walk_at "go"
      refine ⟨_, rfl, R, dx, _, rfl, hR, lk_take, ?_⟩
      walk_at "go"
      refine g_ixT (SqT.of ha) rfl ?_
      walk_at "go"
      refine g_len (.inr (SqT.of hc)) ?_
      walk_at "go"
      refine ⟨R, dx, LA, PA, u, t, 0, _, d0, ds, rfl, hR, SqL.of hL, hd, d00, by omega, ?_⟩
      have f1 : Frm2 R PA H (upd H R (.ins CR dx (runF LA PA (u + 1 : Nat) t))) := .setS
      have k1 := keep2 hR hP f1
      walk_at "go"
      refine ⟨_, rfl, R, dx, _, rfl, upd_same, lk_follow, ?_⟩
      walk_at "go"
      refine g_ixT (SqT.of (k1 _ _ ha)) rfl ?_
      walk_at "go"
      refine g_ixT (v := vs[d0.toNat]) (SqT.of (k1 _ _ hc)) (at_of (j := d0.toNat) (by omega) hv0) ?_
      walk_at "go"
      refine ⟨R, dx, LA, PA, u + 1, t, _, p, _, ds, ps, nq, ds', t', rfl, PlA_keep k1 _ _ pv, okPs_at ok.2.2 hpp, upd_same, f1 _ _ nLR ne hL, ne, by rw [upd_ne nRP.symm]; exact hP, hu1, by rw [← er]; exact r, sz, fun H2 u2 f2 hu2 eu2 hR2 hP2 => ?_⟩
      walk_at "go"
      exact q _ u2 (f1.trans f2) hu2 eu2 hR2 hP2
    | @loop a x y w0 p ha hw =>
      match d, ok, m_follow with
      | 0, ok, _ => unfold okP at ok; exact ok.elim
      | d + 1, ok, m_follow =>
      match l, ok with
      | 0, ok => unfold okP at ok; exact ok.elim
      | l + 1, ok =>
      unfold okP at ok
      cases e : ds.drop u with
      | nil => rw [e] at r; simp only [rn] at r; cases r
      | cons d0 rest =>
      rw [e] at r
      obtain ⟨hd, er, hu1⟩ := drop_cons e
      simp only [rn] at r
      split at r
      case isFalse => cases r
      rename_i bd
      rw [iter_rep] at r
      walk_at "go"
      refine g_ixT (SqT.of ha) rfl ?_
      walk_at "go"
      refine ⟨_, rfl, R, dx, _, rfl, hR, lk_take, ?_⟩
      walk_at "go"
      refine g_ixT (SqT.of ha) rfl ?_
      walk_at "go"
      refine g_ixT (SqT.of ha) rfl ?_
      walk_at "go"
      refine ⟨R, dx, LA, PA, u, t, x, y, d0, ds, rfl, hR, SqL.of hL, hd, bd.1, bd.2, ?_⟩
      have f1 : Frm2 R PA H (upd H R (.ins CR dx (runF LA PA (u + 1 : Nat) t))) := .setS
      walk_at "go"
      refine w_range (by omega) (by omega) (fun i σ H' => ∃ (v3 v4 v6 : Option V) (u1 : Nat) (np : List Int) (t1 : Int), σ = [some (.ref R), some (.ref a), some (.str "loop"), v3, v4, some (.int d0), v6] ∧ Frm2 R PA H H' ∧ u1 ≤ ds.length ∧ H' R = some (.ins CR dx (runF LA PA u1 t1)) ∧ H' PA = some (.lst ((ps ++ np).map V.int)) ∧
        ∃ np2, rns (List.replicate (d0.toNat - i) p) (ds.drop u1) t1 = some (np2, ds', t') ∧ np ++ np2 = nq) ?_ ?_ ?_
      · exact ⟨_, _, _, u + 1, [], t, rfl, f1, hu1, upd_same, by rw [upd_ne nRP.symm, List.append_nil]; exact hP, nq, by rw [Nat.sub_zero, ← er]; exact r, rfl⟩
      · rintro i σ H' hi ⟨v3, v4, v6, u1, np, t1, rfl, f, hu2, hR1, hP1, np2, r2, e2⟩
        have es : d0.toNat - i = (d0.toNat - (i + 1)) + 1 := by omega
        rw [es, List.replicate_succ, rns] at r2
        obtain ⟨a2, d2, t2, b2, g1, g2, rfl⟩ := seqR_inv r2
        have le2 : (ps ++ np).length + a2.length ≤ 50000 := by
          rw [← e2, List.length_append, List.length_append] at sz
          rw [List.length_append]
          omega
        walk_at "go"
        refine ⟨_, rfl, R, dx, _, rfl, hR1, lk_follow, ?_⟩
        walk_at "go"
        refine g_ixT (SqT.of (keep2 hR hP f _ _ ha)) rfl ?_
        walk_at "go"
        refine ⟨R, dx, LA, PA, u1, t1, _, p, _, ds, ps ++ np, a2, d2, t2, rfl, PlA_keep (keep2 hR hP f) _ _ hw, ok.2.2.2, hR1, f _ _ nLR ne hL, ne, hP1, hu2, g1, le2, fun H2 u3 f2 hu3 eu2 hR2 hP2 => ?_⟩
        subst eu2
        walk_at "go"
        exact ⟨_, _, _, u3, np ++ a2, t2, rfl, f.trans f2, hu3, hR2, by rw [← List.append_assoc]; exact hP2, b2, g2, by rw [List.append_assoc]; exact e2⟩
      · rintro σ H' ⟨v3, v4, v6, u1, np, t1, rfl, f, hu2, hR1, hP1, np2, r2, e2⟩
        rw [Nat.sub_self, List.replicate_zero, rns] at r2
        simp only [Option.some.injEq, Prod.mk.injEq] at r2
        obtain ⟨rfl, rfl, rfl⟩ := r2
        rw [List.append_nil] at e2
        subst e2
        walk_at "go"
        exact q _ u1 f hu2 rfl hR1 hP1
theorem ok_follow (T : TxtP K mg) (TR : TxtR K CR) {f : Addr} {fd : FuncData} (me : Meth K CR "follow" f) (F : C8.Fun K "follow" "Run.follow" s_Run_follow f fd) (b : Binds K fd ["self", "plan"] []) (m_take : C8.Met P w K mg base 2 CR "take" (sp_take K CR) []) : ∀ n : Nat, C8.Met P w K mg base (n + 2) CR "follow" (sp_follow K CR n) []
  | 0 => ⟨f, fd, ["self", "plan"], [], TR.c, me, ⟨fun _ _ _ _ h => h.elim, fun _ _ _ _ _ _ _ _ _ _ _ _ _ h => h.elim⟩, b, .nil⟩
  | n + 1 => follow_step T TR me F b m_take (ok_follow T TR me F b m_take n)
end
end K03
namespace K03
open PySem PySem.Spec PyProof.Rows L2 Wd
section
variable {P : Program} {w : World} {K : PySem.W.Frag} {mg : Str → Option Value} {base : Heap} {CR : Addr}
theorem sc_Run_init : FnScope ["self", "delays"] ["self", "delays"] (C8.fnScope s_Run_init) := C8.fnScope_by (by decide +kernel)
def sp_init (CR : Addr) : Sp := fun vs H Q _ => ∃ (R dx LA : Addr), vs = [.ref R, .ref LA] ∧ H R = some (.ins CR dx []) ∧ ∀ H' PA, Frm R H H' → H PA = none → H' R = some (.ins CR dx (runF LA PA 0 0)) → H' PA = some (.lst []) → Q .non H'
theorem ok_init (T : TxtP K mg) (TR : TxtR K CR) {f : Addr} {fd : FuncData} (M : Mk K CR f) (hm : mg "Run" = some (.ref CR)) (F : C8.Fun K "__init__" "Run.__init__" s_Run_init f fd) (b : Binds K fd ["self", "delays"] []) : C8.Mak P w K mg base 1 "Run" CR (sp_init CR) [] := by
  refine C8.mak0 M hm F b .nil sc_Run_init (fun vs H Q E h => ?_) fun cdv A outer s H vs Q E hr h => ?_
  · obtain ⟨R, dx, LA, rfl, _⟩ := h; rfl
  · obtain ⟨R, dx, LA, rfl, hR, q⟩ := h
    have nd := sc_Run_init.nd
    refine ⟨_, (pss_cons (ps_fld (pv 0) (pv 1) rfl)
      (pss_cons (ps_fld (pv 0) pe_int rfl)
      (pss_cons (ps_fld (pv 0) pe_int rfl)
      (pss_one (ps_fld (pv 0) (pe_lst pa_nil) rfl))))), ?_⟩
    walk_at "go"
    refine ⟨_, rfl, _, rfl, R, CR, dx, _, rfl, hR, TR.c, TR.nD, by decide, ?_⟩
    walk_at "go"
    refine ⟨_, rfl, R, CR, dx, _, rfl, upd_same, TR.c, TR.nU, by show 1 < 1000; decide, ?_⟩
    walk_at "go"
    refine ⟨_, rfl, R, CR, dx, _, rfl, upd_same, TR.c, TR.nN, by show 2 < 1000; decide, ?_⟩
    walk_at "go"
    refine ⟨Nat.zero_le _, fun PA hPA => ⟨_, rfl, R, CR, dx, _, rfl, same_new hPA _ _ upd_same, TR.c, TR.nP, by show 3 < 1000; decide, ?_⟩⟩
    have f3 : Frm R H (upd (upd (upd H R (HO.ins CR dx (putF ("delays" : Str) (V.ref LA) []))) R (HO.ins CR dx (putF ("used" : Str) (V.int 0) (putF ("delays" : Str) (V.ref LA) [])))) R
      (HO.ins CR dx (putF ("now" : Str) (V.int 0) (putF ("used" : Str) (V.int 0) (putF ("delays" : Str) (V.ref LA) []))))) := (Frm.set.trans .set).trans .set
    have nPR : PA ≠ R := fun z => by rw [z, upd_same] at hPA; cases hPA
    walk_at "go"
    exact q _ PA ((f3.trans (.new hPA)).trans .set) (f3.back nPR hPA) upd_same (by rw [upd_ne nPR, upd_same])

abbrev s_run_plan : Stmt := top 18
theorem sc_run_plan : FnScope ["plan", "delays", "run"] ["plan", "delays"] (C8.fnScope s_run_plan) := C8.fnScope_by (by decide +kernel)
def sp_run_plan : Sp := fun vs H Q _ => ∃ (v : V) (p : Pl) (LA : Addr) (ds nq : List Int) (t' : Int), vs = [v, .ref LA] ∧ PlA H v p ∧ okP 4 2 p ∧ cnt p ≤ 30 ∧ H LA = some (.lst (ds.map V.int)) ∧ rn p ds 0 = some (nq, [], t') ∧ nq.length ≤ 50000 ∧
  ∀ H' r PA, Same H H' → H PA = none → H' r = some (.tup [.ref PA, .int t']) → H' PA = some (.lst (nq.map V.int)) → Q (.ref r) H'
theorem ok_run_plan (T : TxtP K mg) (TR : TxtR K CR) {f : Addr} {fd : FuncData} (D : C8.Def K mg "run_plan" s_run_plan f fd) (b : Binds K fd ["plan", "delays"] []) (g_check_plan : C8.Cal P w K mg base 4 "check_plan" (sp_check_plan K) [])
    (g_Run : C8.Mak P w K mg base 1 "Run" CR (sp_init CR) []) (m_follow : C8.Met P w K mg base 7 CR "follow" (sp_follow K CR 5) []) : C8.Cal P w K mg base 8 "run_plan" sp_run_plan [] := by
  refine C8.cal0 D b .nil sc_run_plan (fun vs H Q E h => ?_) fun cdv A outer s H vs Q E hr h => ?_
  · obtain ⟨v, p, LA, ds, nq, t', rfl, _⟩ := h; rfl
  · obtain ⟨v, p, LA, ds, nq, t', rfl, hp, ok, hc, hL, r, sz, q⟩ := h
    have nd := sc_run_plan.nd
    refine ⟨_, (pss_cons (ps_expr (C8.pe_c g_check_plan hr (by first | decide | exact Nat.le_refl _ | omega) (by rfl) (pa_cons (pv 0) pa_nil)))
      (pss_cons (ps_set (i := 2) nd rfl (Or.inl rfl) (C8.pe_mk g_Run hr (by first | decide | exact Nat.le_refl _ | omega) (by rfl) (pa_cons (pv 1) pa_nil)))
      (pss_cons (ps_expr (C8.pe_mt m_follow hr (by first | decide | exact Nat.le_refl _ | omega) (pv 2) (pa_cons (pv 0) pa_nil)))
      (pss_cons (ps_if (pt_cmpR op_lt (pe_fld (pv 2) rfl) (pe_callB (r := Wd.rLen K) call_len1 (by rfl) T.n_len PySem.boot_len (pa_cons (pv 1) pa_nil)) (nomark _)) (pss_one ps_never) pss_nil)
      (pss_one (ps_ret (pe_tup (pa_cons (pe_fld (pv 2) rfl) (pa_cons (pe_fld (pv 2) rfl) pa_nil))))))))), ?_⟩
    walk_at "go"
    refine ⟨v, p, 4, 2, rfl, hp, ok, by omega, by omega, hc, fun H1 s1 => ?_⟩
    walk_at "go"
    refine ⟨_, rfl, fun R dx hR hdx ndx => ?_⟩
    have s2 := s1.trans (same_new (o := .own R) hdx)
    have hR2 : upd H1 dx (.own R) R = none := by rw [upd_ne ndx.symm]; exact hR
    have s3 := s2.trans (same_new (o := .ins CR dx []) hR2)
    refine ⟨R, dx, LA, rfl, upd_same, fun H4 PA f4 hPA hR4 hP4 => ⟨rfl, ?_⟩⟩
    have hR0 : H R = none := Wd.Same.back s1 hR
    have hPA0 : H PA = none := Wd.Same.back s3 hPA
    have s4 : Same H H4 := fun a o h => f4 a o (fun z => by rw [z, hR0] at h; cases h) (s3 a o h)
    walk_at "go"
    refine ⟨_, rfl, R, dx, _, rfl, hR4, lk_follow, ?_⟩
    walk_at "go"
    refine ⟨R, dx, LA, PA, 0, 0, v, p, _, ds, [], nq, [], t', rfl, PlA_keep (keepT_same s4) _ _ hp, ok, hR4, s4 _ _ hL, (fun z => by rw [z, hPA0] at hL; cases hL), hP4, Nat.zero_le _, r, by simpa using sz, fun H5 u5 f5 hu5 eu5 hR5 hP5 => ?_⟩
    have s5 : Same H H5 := fun a o h => f5 a o (fun z => by rw [z, hR0] at h; cases h) (fun z => by rw [z, hPA0] at h; cases h) (s4 a o h)
    have eu : u5 = ds.length := by
      have := congrArg List.length eu5
      rw [List.length_drop, List.length_nil] at this
      omega
    walk_at "go"
    refine ⟨_, rfl, R, CR, dx, _, _, rfl, hR5, TR.c, TR.nU, lk_u, ?_⟩
    walk_at "go"
    refine g_len (.inl (SqL.of (s5 _ _ hL))) ?_
    walk_at "go"
    rw [List.length_map]
    refine g_ite (fun h => absurd h (by omega)) (fun _ => ?_)
    walk_at "go"
    refine ⟨_, rfl, R, CR, dx, _, _, rfl, hR5, TR.c, TR.nP, lk_p, ?_⟩
    walk_at "go"
    refine ⟨_, rfl, R, CR, dx, _, _, rfl, hR5, TR.c, TR.nN, lk_n, ?_⟩
    walk_at "go"
    intro z hz
    exact q _ z PA (s5.trans (same_new hz)) hPA0 upd_same (same_new hz _ _ (by simpa using hP5))
end
end K03
namespace K03
open PySem PySem.Spec PyProof.Rows L2 Wd
theorem iter_le {f : List Int → Int → Res} {B : Nat} (hf : ∀ ds t nq ds' t', f ds t = some (nq, ds', t') → nq.length ≤ B) : ∀ (n : Nat) (ds : List Int) (t : Int) (nq ds' : List Int) (t' : Int), iter f n ds t = some (nq, ds', t') → nq.length ≤ n * B
  | 0, ds, t, nq, ds', t', h => by simp only [iter, Option.some.injEq, Prod.mk.injEq] at h; rw [← h.1]; exact Nat.zero_le _
  | n + 1, ds, t, nq, ds', t', h => by
    simp only [iter] at h
    obtain ⟨a, d2, t2, b, h1, h2, rfl⟩ := seqR_inv h
    have := hf _ _ _ _ _ h1
    have := iter_le hf n _ _ _ _ _ h2
    rw [List.length_append, Nat.add_mul]
    omega
mutual
theorem np_le : ∀ (p : Pl) (d l : Nat) (ds : List Int) (t : Int) (nq ds' : List Int) (t' : Int), okP d l p → rn p ds t = some (nq, ds', t') → nq.length ≤ Wd.cnt p * 10 ^ l
  | .pat, d, l, ds, t, nq, ds', t', _, h => by
    simp only [rn, Option.some.injEq, Prod.mk.injEq] at h
    rw [← h.1]
    simp only [Wd.cnt, Nat.one_mul, List.length_singleton]; exact ten_pos l
  | .work _ _, d, l, [], t, nq, ds', t', _, h => by simp only [rn] at h; cases h
  | .work _ _, d, l, _ :: _, t, nq, ds', t', _, h => by
    simp only [rn] at h
    split at h
    · simp only [Option.some.injEq, Prod.mk.injEq] at h
      rw [← h.1]; exact Nat.zero_le _
    · cases h
  | .row ps, 0, l, _, _, _, _, _, h, _ => by unfold okP at h; exact h.elim
  | .row ps, d + 1, l, ds, t, nq, ds', t', ok, h => by
    unfold okP at ok
    simp only [rn] at h
    have := nps_le ps d l ds t nq ds' t' ok.2.2 h
    simp only [Wd.cnt, Nat.add_mul]
    omega
  | .either ps, 0, l, _, _, _, _, _, h, _ => by unfold okP at h; exact h.elim
  | .either _, d + 1, l, [], t, nq, ds', t', _, h => by simp only [rn] at h; cases h
  | .either ps, d + 1, l, x :: ds, t, nq, ds', t', ok, h => by
    unfold okP at ok
    simp only [rn] at h
    split at h
    · have := npAt_le ps x.toNat d l ds t nq ds' t' ok.2.2 h
      simp only [Wd.cnt, Nat.add_mul]
      omega
    · cases h
  | .loop _ _ _, 0, l, _, _, _, _, _, h, _ => by unfold okP at h; exact h.elim
  | .loop _ _ _, d + 1, 0, _, _, _, _, _, h, _ => by unfold okP at h; exact h.elim
  | .loop _ _ _, d + 1, l + 1, [], t, nq, ds', t', _, h => by simp only [rn] at h; cases h
  | .loop a b p, d + 1, l + 1, x :: ds, t, nq, ds', t', ok, h => by
    unfold okP at ok
    simp only [rn] at h
    split at h
    · rename_i bd
      have h1 := iter_le (fun ds t nq ds' t' e => np_le p d l ds t nq ds' t' ok.2.2.2 e) _ _ _ _ _ _ h
      have h9 : x.toNat ≤ 9 := by omega
      have h2 : x.toNat * (Wd.cnt p * 10 ^ l) ≤ 9 * (Wd.cnt p * 10 ^ l) := Nat.mul_le_mul_right _ h9
      simp only [Wd.cnt, Nat.add_mul, Nat.pow_succ]
      have e : Wd.cnt p * (10 ^ l * 10) = 10 * (Wd.cnt p * 10 ^ l) := by rw [← Nat.mul_assoc, Nat.mul_comm]
      omega
    · cases h
theorem nps_le : ∀ (ps : List Pl) (d l : Nat) (ds : List Int) (t : Int) (nq ds' : List Int) (t' : Int), okPs d l ps → rns ps ds t = some (nq, ds', t') → nq.length ≤ Wd.cnts ps * 10 ^ l
  | [], d, l, ds, t, nq, ds', t', _, h => by simp only [rns, Option.some.injEq, Prod.mk.injEq] at h; rw [← h.1]; exact Nat.zero_le _
  | p :: ps, d, l, ds, t, nq, ds', t', ok, h => by
    unfold okPs at ok
    simp only [rns] at h
    obtain ⟨a, d2, t2, b, h1, h2, rfl⟩ := seqR_inv h
    have := np_le p d l _ _ _ _ _ ok.1 h1
    have := nps_le ps d l _ _ _ _ _ ok.2 h2
    simp only [Wd.cnts, Nat.add_mul, List.length_append]
    omega
theorem npAt_le : ∀ (ps : List Pl) (n d l : Nat) (ds : List Int) (t : Int) (nq ds' : List Int) (t' : Int), okPs d l ps → rnAt ps n ds t = some (nq, ds', t') → nq.length ≤ Wd.cnts ps * 10 ^ l
  | [], n, d, l, ds, t, nq, ds', t', _, h => by simp only [rnAt] at h; cases h
  | p :: ps, 0, d, l, ds, t, nq, ds', t', ok, h => by
    unfold okPs at ok
    simp only [rnAt] at h
    have := np_le p d l _ _ _ _ _ ok.1 h
    simp only [Wd.cnts, Nat.add_mul]
    omega
  | p :: ps, n + 1, d, l, ds, t, nq, ds', t', ok, h => by
    unfold okPs at ok
    simp only [rnAt] at h
    have := npAt_le ps n d l _ _ _ _ _ ok.2 h
    simp only [Wd.cnts, Nat.add_mul]
    omega
end
section
variable {P : Program} {w : World} {K : PySem.W.Frag} {mg : Str → Option Value} {base : Heap} {CR : Addr}
theorem _root_.Wd.Dst.frmA {B H H' : Hp} {S PA : Addr} (d : Dst K B H S) (n : PA ≠ S) (h : B PA = none) (f : Frm PA H H') : Dst K B H' S := by
  obtain ⟨sc, ns, c, m, r, hS, hsB, fB, rest⟩ := d
  exact ⟨sc, ns, c, m, r, f _ _ n.symm hS, hsB, fun b o nb e => f _ _ (fun z => by rw [z, h] at e; cases e) (fB b o nb e), rest⟩
theorem okd2 {nq : List Int} (h : nq.length ≤ 100000) (t' : Int) : OkD 2 (.tuple [.list (nq.map PyData.int), .int t']) := .tup (by show 2 ≤ 100000; decide) (fun d hd => by
    simp only [List.mem_cons, List.not_mem_nil, or_false] at hd
    rcases hd with rfl | rfl
    · exact .lst (by rw [List.length_map]; exact h) (fun d hd => by
        obtain ⟨z, _, rfl⟩ := List.mem_map.mp hd
        exact .int _)
    · exact .int _)
abbrev s_law : Stmt := top 29
theorem sc_law : FnScope ["_law_script", "_law_state", "_law_turn", "_law_plan_here", "_law_delays_here", "_law_pats", "_law_end", "_law_handed", "_law_again", "_law_found"] ["_law_script"] (C8.fnScope s_law) := C8.fnScope_by (by decide +kernel)
def sp_law (K : PySem.W.Frag) : Sp := fun vs H Q _ => ∃ (sc : Addr) (ns : List Int), vs = [.ref sc] ∧ SqL K H sc (ns.map V.int) ∧ ns.length ≤ 63 ∧ ∀ H', Q (.bl true) H'
theorem ok_law (T : TxtP K mg) {f : Addr} {fd : FuncData} (D : C8.Def K mg "law" s_law f fd)
    (g_law_start : C8.Cal P w K mg base 1 "_law_start" (sp_start K) []) (g_law_drawn : C8.Cal P w K mg base 1 "_law_drawn" (sp_drawn K) []) (g_law_good : C8.Cal P w K mg base 7 "_law_good" (sp_good K 3) [])
    (g_law_greater : C8.Cal P w K mg base 6 "_law_greater" (sp_greater K 5) []) (g_law_delays : C8.Cal P w K mg base 6 "_law_delays" (sp_delays K 5) []) (g_law_done : C8.Cal P w K mg base 6 "_law_done" (sp_done K 5) [])
    (g_law_same : C8.Cal P w K mg base 3 "_law_same" (sp_same K 3) []) (g_run_plan : C8.Cal P w K mg base 8 "run_plan" sp_run_plan []) :
    FnOk P w K mg base C8.CX0 9 f fd ["_law_script"] (sp_law K) := by
  refine C8.fn0 D.fn sc_law (fun vs H Q E h => ?_) fun cdv A outer s H vs Q E hr h => ?_
  · obtain ⟨sc, ns, rfl, _⟩ := h; rfl
  · obtain ⟨sc, ns, rfl, hsc, hl, q⟩ := h
    have nd := sc_law.nd
    refine ⟨_, (pss_cons (ps_set (i := 1) nd rfl (Or.inl rfl) (C8.pe_c g_law_start hr (by first | decide | exact Nat.le_refl _ | omega) (by rfl) (pa_cons (pv 0) pa_nil)))
      (pss_cons (ps_for PassesOwn.never rfl (pi_range1 rfl T.n_range (pa_cons pe_int pa_nil)) (pg_name (i := 2) nd rfl (Or.inl rfl)) (pss_cons (ps_set (i := 3) nd rfl (Or.inl rfl) (C8.pe_c g_law_good hr (by first | decide | exact Nat.le_refl _ | omega) (by rfl) (pa_cons (pv 1) (pa_cons pe_int (pa_cons pe_int pa_nil)))))
      (pss_cons (ps_if (pt_cmpR op_eq (C8.pe_c g_law_drawn hr (by first | decide | exact Nat.le_refl _ | omega) (by rfl) (pa_cons (pv 1) (pa_cons pe_int pa_nil))) pe_int (nomark _)) (pss_one (ps_set (i := 3) nd rfl (Or.inl rfl) (C8.pe_c g_law_greater hr (by first | decide | exact Nat.le_refl _ | omega) (by rfl) (pa_cons (pv 1) (pa_cons (pv 3) pa_nil))))) pss_nil)
      (pss_cons (ps_set (i := 4) nd rfl (Or.inl rfl) (pe_lst pa_nil))
      (pss_cons (ps_expr (C8.pe_c g_law_delays hr (by first | decide | exact Nat.le_refl _ | omega) (by rfl) (pa_cons (pv 1) (pa_cons (pv 3) (pa_cons (pv 4) pa_nil)))))
      (pss_cons (ps_set (i := 5) nd rfl (Or.inl rfl) (pe_lst pa_nil))
      (pss_cons (ps_set (i := 6) nd rfl (Or.inl rfl) (pe_ix (r := rIxT K) ix_tup (C8.pe_c g_law_done hr (by first | decide | exact Nat.le_refl _ | omega) (by rfl) (pa_cons (pv 3) (pa_cons (pv 4) (pa_cons (pv 5) (pa_cons pe_int pa_nil))))) pe_int (fun _ _ => rfl)))
      (pss_cons (ps_set (i := 7) nd rfl (Or.inl rfl) (pe_callTy (r := rListOf K) call_list1 (by rfl) T.n_list (by decide +kernel) (pa_cons (pv 4) pa_nil)))
      (pss_one (ps_for PassesOwn.never rfl (pi_range1 rfl T.n_range (pa_cons pe_int pa_nil)) (pg_name (i := 8) nd rfl (Or.inl rfl)) (pss_cons (ps_set (i := 9) nd rfl (Or.inl rfl) (C8.pe_c g_run_plan hr (by first | decide | exact Nat.le_refl _ | omega) (by rfl) (pa_cons (pv 3) (pa_cons (pv 7) pa_nil))))
      (pss_cons (ps_if (PW.pt (pw_or (pt_not (pt_val (C8.pe_c g_law_same hr (by first | decide | exact Nat.le_refl _ | omega) (by rfl) (pa_cons (pv 9) (pa_cons (pe_tup (pa_cons (pv 5) (pa_cons (pv 6) pa_nil))) pa_nil))))) (pw_or1 (pt_cmpR (r := rNeD K) (op_neD hr.units) (pv 7) (pv 4) (nomark _))))) (pss_one (ps_ret pe_bl)) pss_nil)
      (pss_one (ps_expr (pe_bmK (K := K) rfl PySem.F.plainAttrs_list PySem.F.slot_list_append PySem.F.type_list_append mt_append (pe_ix (r := rIxT K) ix_tup (pv 9) pe_int (fun _ _ => rfl)) (pa_cons pe_int pa_nil))))))))))))))))
      (pss_one (ps_ret pe_bl)))), ?_⟩
    walk_at "go"
    refine ⟨noT H, sc, ns, rfl, noT_list hsc, noT_same H, hl, fun H1 S nS s1 d1 => ?_⟩
    walk_at "go"
    refine w_range (by decide) (by decide) (fun i σ H' => ∃ v2 v3 v4 v5 v6 v7 v8 v9 : Option V, σ = [some (.ref sc), some (.ref S), v2, v3, v4, v5, v6, v7, v8, v9] ∧ Dst K (noT H) H' S) ?_ ?_ ?_
    · exact ⟨_, _, _, _, _, _, _, _, rfl, d1⟩
    · clear d1
      rintro i σ H0 hi ⟨v2, v3, v4, v5, v6, v7, v8, v9, rfl, d⟩
      walk_at "go"
      refine ⟨_, S, 5, 2, rfl, d, by omega, fun H2 v p f2 d2 pv po pc => ?_⟩
      walk_at "go"
      refine use_drawn (n := 4) d2 (by decide) (by decide) fun H3 x f3 d3 x0 x1 => ?_
      have pv3 := PlA_keep (keepT_frm d2 f3) _ _ pv
      walk_at "go"
      refine g_ite (fun hx => ?_) (fun hx => ?_)
      · walk_at "go"
        refine use_greater d3 pv3 po fun H4 v' p' f4 d4 pv' po' pc' => ?_
        walk_at "go"
        intro F hF
        have d5 := d4.same (same_new (o := .lst []) hF)
        have mxb := mx_le p' 4 2 po'
        have e100 : (10 : Nat) ^ 2 = 100 := rfl
        rw [e100] at mxb
        walk_at "go"
        refine use_delays (old := []) d5 (PlA_keep (keepT_new hF) _ _ pv') po' upd_same (d4.ne hF) (d4.fresh hF) (by simp only [List.length_nil]; omega) fun H6 ds f6 d6 e6 va le6 => ?_
        rw [List.nil_append] at e6
        obtain ⟨nq, t', er⟩ := va [] 0
        rw [List.append_nil] at er
        have nb := np_le p' 4 2 _ _ _ _ _ po' er
        rw [e100] at nb
        have pv6 := PlA_keep ((keepT_new hF).trans (keepT_frm2 d5 upd_same f6)) _ _ pv'
        walk_at "go"
        intro PA hPA
        have d7 := d6.same (same_new (o := .lst []) hPA)
        have e7 := same_new (o := .lst []) hPA _ _ e6
        have nFP : F ≠ PA := ne_of_none e6 hPA
        walk_at "go"
        refine use_done (PlA_keep (keepT_new hPA) _ _ pv6) po' e7 nFP (ps := []) upd_same er (by simp only [List.length_nil]; omega) fun H8 R L8 f8 hR hL8 nL8 hP8 => ?_
        rw [List.nil_append] at hP8
        have k8 : KeepT (upd H6 PA (.lst [])) H8 := keepT_of_frm (xs := []) upd_same f8
        have d8 := d7.frmA (d6.ne hPA) (d6.fresh hPA) f8
        walk_at "go"
        refine g_ixT (SqT.of hR) rfl ?_
        walk_at "go"
        have e8 := f8 _ _ nFP e7
        refine g_listOf (SqL.of e8) ?_
        intro HL hHL
        have d9 := d8.same (same_new (o := .lst (ds.map V.int)) hHL)
        have e9F := same_new (o := .lst (ds.map V.int)) hHL _ _ e8
        have e9P := same_new (o := .lst (ds.map V.int)) hHL _ _ hP8
        have e9H : upd H8 HL (.lst (ds.map V.int)) HL = some (.lst (ds.map V.int)) := upd_same
        have pv9 := PlA_keep (((keepT_new hPA).trans k8).trans (keepT_new (o := .lst (ds.map V.int)) hHL)) _ _ pv6
        generalize upd H8 HL (.lst (ds.map V.int)) = H9 at d9 e9F e9P e9H pv9
        walk_at "go"
        refine w_range (by decide) (by decide) (fun j σ H' => ∃ v8 v9 : Option V, σ = [some (.ref sc), some (.ref S), some (.int i), some v', some (.ref F), some (.ref PA), some (.int t'), some (.ref HL), v8, v9] ∧ Same H9 H' ∧ Dst K (noT H) H' S) ?_ ?_ ?_
        · exact ⟨_, _, rfl, fun _ _ h => h, d9⟩
        · rintro j σ H' hj ⟨v8, v9, rfl, sm, dd⟩
          walk_at "go"
          refine ⟨v', p', HL, ds, nq, t', rfl, PlA_keep (keepT_same sm) _ _ pv9, po', (by omega), sm _ _ e9H, er, by omega, fun H10 r PA2 s10 hPA2 hr10 hP10 => ?_⟩
          walk_at "go"
          intro z hz
          have s11 := s10.trans (same_new (o := .tup [.ref PA, .int t']) hz)
          have sA := sm.trans s11
          walk_at "go"
          refine use_same (d := .tuple [.list (nq.map PyData.int), .int t']) (.tup (SqT.of (same_new hz _ _ hr10)) (.cons (dp_ints (SqL.of (same_new hz _ _ hP10))) (.cons (.int _) .nil))) (.tup (SqT.of upd_same) (.cons (dp_ints (SqL.of (sA _ _ e9P))) (.cons (.int _) .nil))) (okd2 (by omega) t') fun H12 s12 => ?_
          have sB := s11.trans s12
          have sC := sm.trans sB
          walk_at "go"
          refine g_neLI (ns := ds) (ms := ds) (SqL.of (sC _ _ e9H)) (SqL.of (sC _ _ e9F)) ?_
          walk_at "go"
          refine g_iteN (fun hh => absurd rfl hh) (fun _ => ?_)
          walk_at "go"
          have hP12 := s12 _ _ (same_new (o := .tup [.ref PA, .int t']) hz _ _ hP10)
          refine g_ixT (SqT.of (s12 _ _ (same_new (o := .tup [.ref PA, .int t']) hz _ _ hr10))) rfl ?_
          refine g_tyL hP12 ?_
          walk_at "go"
          refine g_append hP12 (by rw [List.length_map]; omega) ?_
          walk_at "go"
          exact ⟨_, _, rfl, Wd.Same.mut sC (Wd.Same.back sm hPA2), (dd.same sB).mut (dd.ne hPA2) (dd.fresh hPA2)⟩
        · rintro σ H' ⟨v8, v9, rfl, sm, dd⟩
          walk_at "go"
          exact ⟨_, _, _, _, _, _, _, _, rfl, dd⟩
      · walk_at "go"
        intro F hF
        have d5 := d3.same (same_new (o := .lst []) hF)
        have mxb := mx_le p 4 2 po
        have e100 : (10 : Nat) ^ 2 = 100 := rfl
        rw [e100] at mxb
        walk_at "go"
        refine use_delays (old := []) d5 (PlA_keep (keepT_new hF) _ _ pv3) po upd_same (d3.ne hF) (d3.fresh hF) (by simp only [List.length_nil]; omega) fun H6 ds f6 d6 e6 va le6 => ?_
        rw [List.nil_append] at e6
        obtain ⟨nq, t', er⟩ := va [] 0
        rw [List.append_nil] at er
        have nb := np_le p 4 2 _ _ _ _ _ po er
        rw [e100] at nb
        have pv6 := PlA_keep ((keepT_new hF).trans (keepT_frm2 d5 upd_same f6)) _ _ pv3
        walk_at "go"
        intro PA hPA
        have d7 := d6.same (same_new (o := .lst []) hPA)
        have e7 := same_new (o := .lst []) hPA _ _ e6
        have nFP : F ≠ PA := ne_of_none e6 hPA
        walk_at "go"
        refine use_done (PlA_keep (keepT_new hPA) _ _ pv6) po e7 nFP (ps := []) upd_same er (by simp only [List.length_nil]; omega) fun H8 R L8 f8 hR hL8 nL8 hP8 => ?_
        rw [List.nil_append] at hP8
        have k8 : KeepT (upd H6 PA (.lst [])) H8 := keepT_of_frm (xs := []) upd_same f8
        have d8 := d7.frmA (d6.ne hPA) (d6.fresh hPA) f8
        walk_at "go"
        refine g_ixT (SqT.of hR) rfl ?_
        walk_at "go"
        have e8 := f8 _ _ nFP e7
        refine g_listOf (SqL.of e8) ?_
        intro HL hHL
        have d9 := d8.same (same_new (o := .lst (ds.map V.int)) hHL)
        have e9F := same_new (o := .lst (ds.map V.int)) hHL _ _ e8
        have e9P := same_new (o := .lst (ds.map V.int)) hHL _ _ hP8
        have e9H : upd H8 HL (.lst (ds.map V.int)) HL = some (.lst (ds.map V.int)) := upd_same
        have pv9 := PlA_keep (((keepT_new hPA).trans k8).trans (keepT_new (o := .lst (ds.map V.int)) hHL)) _ _ pv6
        generalize upd H8 HL (.lst (ds.map V.int)) = H9 at d9 e9F e9P e9H pv9
        walk_at "go"
        refine w_range (by decide) (by decide) (fun j σ H' => ∃ v8 v9 : Option V, σ = [some (.ref sc), some (.ref S), some (.int i), some v, some (.ref F), some (.ref PA), some (.int t'), some (.ref HL), v8, v9] ∧ Same H9 H' ∧ Dst K (noT H) H' S) ?_ ?_ ?_
        · exact ⟨_, _, rfl, fun _ _ h => h, d9⟩
        · rintro j σ H' hj ⟨v8, v9, rfl, sm, dd⟩
          walk_at "go"
          refine ⟨v, p, HL, ds, nq, t', rfl, PlA_keep (keepT_same sm) _ _ pv9, po, pc, sm _ _ e9H, er, by omega, fun H10 r PA2 s10 hPA2 hr10 hP10 => ?_⟩
          walk_at "go"
          intro z hz
          have s11 := s10.trans (same_new (o := .tup [.ref PA, .int t']) hz)
          have sA := sm.trans s11
          walk_at "go"
          refine use_same (d := .tuple [.list (nq.map PyData.int), .int t']) (.tup (SqT.of (same_new hz _ _ hr10)) (.cons (dp_ints (SqL.of (same_new hz _ _ hP10))) (.cons (.int _) .nil))) (.tup (SqT.of upd_same) (.cons (dp_ints (SqL.of (sA _ _ e9P))) (.cons (.int _) .nil))) (okd2 (by omega) t') fun H12 s12 => ?_
          have sB := s11.trans s12
          have sC := sm.trans sB
          walk_at "go"
          refine g_neLI (ns := ds) (ms := ds) (SqL.of (sC _ _ e9H)) (SqL.of (sC _ _ e9F)) ?_
          walk_at "go"
          refine g_iteN (fun hh => absurd rfl hh) (fun _ => ?_)
          walk_at "go"
          have hP12 := s12 _ _ (same_new (o := .tup [.ref PA, .int t']) hz _ _ hP10)
          refine g_ixT (SqT.of (s12 _ _ (same_new (o := .tup [.ref PA, .int t']) hz _ _ hr10))) rfl ?_
          refine g_tyL hP12 ?_
          walk_at "go"
          refine g_append hP12 (by rw [List.length_map]; omega) ?_
          walk_at "go"
          exact ⟨_, _, rfl, Wd.Same.mut sC (Wd.Same.back sm hPA2), (dd.same sB).mut (dd.ne hPA2) (dd.fresh hPA2)⟩
        · rintro σ H' ⟨v8, v9, rfl, sm, dd⟩
          walk_at "go"
          exact ⟨_, _, _, _, _, _, _, _, rfl, dd⟩
    · rintro σ H' ⟨v2, v3, v4, v5, v6, v7, v8, v9, rfl, d⟩
      walk_at "go"
      exact q H'
end
end K03
namespace K03
open PySem PySem.Spec PyProof.Rows L2 Wd
theorem ok_greater {P : Program} {w : World} {K : PySem.W.Frag} {mg : Str → Option Value} {base : Heap} (T : Txt K mg) {f : Addr} {fd : FuncData} (D : C8.Def K mg "_law_greater" s_law_greater f fd) (b : Binds K fd ["_law_state", "_law_plan_here"] []) (g_law_drawn : C8.Cal P w K mg base 1 "_law_drawn" (sp_drawn K) []) :
    ∀ n : Nat, C8.Cal P w K mg base (n + 1) "_law_greater" (sp_greater K n) []
  | 0 => ⟨f, fd, ["_law_state", "_law_plan_here"], [], ⟨fun _ _ _ _ h => h.elim, fun _ _ _ _ _ _ _ _ _ _ _ _ _ h => h.elim⟩, D.mgf, D.kp, b, .nil⟩
  | n + 1 => greater_step T D b g_law_drawn (ok_greater T D b g_law_drawn n)
theorem law_at {l : PySem.W.OpenLaw} {w : World} {K : PySem.W.Frag} {h : Heap} {mg : Str → Option Value} {fa : Addr} (X : K.In h) (G : h.Ns mainGlobals mg) (hfa : mg "law" = some (.ref fa))
    {f_is_number : Addr} {oc_is_number kV_is_number dc_is_number pm_is_number cd_is_number ct_is_number : Value} {od_is_number an_is_number : Option Addr} {sl_is_number : Array (Option Value)}
    {f_is_range : Addr} {oc_is_range kV_is_range dc_is_range pm_is_range cd_is_range ct_is_range : Value} {od_is_range an_is_range : Option Addr} {sl_is_range : Array (Option Value)}
    {f_has_form : Addr} {oc_has_form kV_has_form dc_has_form pm_has_form cd_has_form ct_has_form : Value} {od_has_form an_has_form : Option Addr} {sl_has_form : Array (Option Value)}
    {f_plans_in : Addr} {oc_plans_in kV_plans_in dc_plans_in pm_plans_in cd_plans_in ct_plans_in : Value} {od_plans_in an_plans_in : Option Addr} {sl_plans_in : Array (Option Value)}
    {f_check_plan : Addr} {oc_check_plan kV_check_plan dc_check_plan pm_check_plan cd_check_plan ct_check_plan : Value} {od_check_plan an_check_plan : Option Addr} {sl_check_plan : Array (Option Value)}
    {f_run_plan : Addr} {oc_run_plan kV_run_plan dc_run_plan pm_run_plan cd_run_plan ct_run_plan : Value} {od_run_plan an_run_plan : Option Addr} {sl_run_plan : Array (Option Value)}
    {f_law_start : Addr} {oc_law_start kV_law_start dc_law_start pm_law_start cd_law_start ct_law_start : Value} {od_law_start an_law_start : Option Addr} {sl_law_start : Array (Option Value)}
    {f_law_drawn : Addr} {oc_law_drawn kV_law_drawn dc_law_drawn pm_law_drawn cd_law_drawn ct_law_drawn : Value} {od_law_drawn an_law_drawn : Option Addr} {sl_law_drawn : Array (Option Value)}
    {f_law_same : Addr} {oc_law_same kV_law_same dc_law_same pm_law_same cd_law_same ct_law_same : Value} {od_law_same an_law_same : Option Addr} {sl_law_same : Array (Option Value)}
    {f_law_plan : Addr} {oc_law_plan kV_law_plan dc_law_plan pm_law_plan cd_law_plan ct_law_plan : Value} {od_law_plan an_law_plan : Option Addr} {sl_law_plan : Array (Option Value)}
    {f_law_count : Addr} {oc_law_count kV_law_count dc_law_count pm_law_count cd_law_count ct_law_count : Value} {od_law_count an_law_count : Option Addr} {sl_law_count : Array (Option Value)}
    {f_law_good : Addr} {oc_law_good kV_law_good dc_law_good pm_law_good cd_law_good ct_law_good : Value} {od_law_good an_law_good : Option Addr} {sl_law_good : Array (Option Value)}
    {f_law_delays : Addr} {oc_law_delays kV_law_delays dc_law_delays pm_law_delays cd_law_delays ct_law_delays : Value} {od_law_delays an_law_delays : Option Addr} {sl_law_delays : Array (Option Value)}
    {f_law_done : Addr} {oc_law_done kV_law_done dc_law_done pm_law_done cd_law_done ct_law_done : Value} {od_law_done an_law_done : Option Addr} {sl_law_done : Array (Option Value)}
    {f_law_greater : Addr} {oc_law_greater kV_law_greater dc_law_greater pm_law_greater cd_law_greater ct_law_greater : Value} {od_law_greater an_law_greater : Option Addr} {sl_law_greater : Array (Option Value)}
    {fa0 : Addr} {oc_law kV_law dc_law pm_law cd_law ct_law : Value} {od_law an_law : Option Addr} {sl_law : Array (Option Value)}
    {C_Run : Addr}
    {f_Run_init : Addr} {oc_Run_init kV_Run_init dc_Run_init pm_Run_init cd_Run_init ct_Run_init : Value} {od_Run_init an_Run_init : Option Addr} {sl_Run_init : Array (Option Value)}
    {f_Run_take : Addr} {oc_Run_take kV_Run_take dc_Run_take pm_Run_take cd_Run_take ct_Run_take : Value} {od_Run_take an_Run_take : Option Addr} {sl_Run_take : Array (Option Value)}
    {f_Run_follow : Addr} {oc_Run_follow kV_Run_follow dc_Run_follow pm_Run_follow cd_Run_follow ct_Run_follow : Value} {od_Run_follow an_Run_follow : Option Addr} {sl_Run_follow : Array (Option Value)}
    {t_LONGEST_WORK : Tok}
    {t_MOST_TIMES : Tok}
    {t_LONGEST_ROW : Tok}
    {t_MOST_PLANS : Tok}
    {t_MOST_DEEP : Tok}
    {t_MOST_LOOPS : Tok}
    (a_is_number : PySem.W.nsIn K mainGlobals "is_number" = some (some (.ref f_is_number)))
    (l_is_number : K.lookup f_is_number = some ⟨oc_is_number, od_is_number, .func (PySem.W.fnOf "is_number" "is_number" (C8.fnArgs s_is_number) (C8.fnBody s_is_number) (C8.fnScope s_is_number) .none kV_is_number dc_is_number pm_is_number an_is_number cd_is_number ct_is_number), sl_is_number⟩)
    (c_is_number : PySem.W.codeIn K cd_is_number "is_number" = true)
    (k_is_number : PySem.W.keepIn K (.ref f_is_number) = true)
    (a_is_range : PySem.W.nsIn K mainGlobals "is_range" = some (some (.ref f_is_range)))
    (l_is_range : K.lookup f_is_range = some ⟨oc_is_range, od_is_range, .func (PySem.W.fnOf "is_range" "is_range" (C8.fnArgs s_is_range) (C8.fnBody s_is_range) (C8.fnScope s_is_range) .none kV_is_range dc_is_range pm_is_range an_is_range cd_is_range ct_is_range), sl_is_range⟩)
    (c_is_range : PySem.W.codeIn K cd_is_range "is_range" = true)
    (k_is_range : PySem.W.keepIn K (.ref f_is_range) = true)
    (a_has_form : PySem.W.nsIn K mainGlobals "has_form" = some (some (.ref f_has_form)))
    (l_has_form : K.lookup f_has_form = some ⟨oc_has_form, od_has_form, .func (PySem.W.fnOf "has_form" "has_form" (C8.fnArgs s_has_form) (C8.fnBody s_has_form) (C8.fnScope s_has_form) .none kV_has_form dc_has_form pm_has_form an_has_form cd_has_form ct_has_form), sl_has_form⟩)
    (c_has_form : PySem.W.codeIn K cd_has_form "has_form" = true)
    (k_has_form : PySem.W.keepIn K (.ref f_has_form) = true)
    (a_plans_in : PySem.W.nsIn K mainGlobals "plans_in" = some (some (.ref f_plans_in)))
    (l_plans_in : K.lookup f_plans_in = some ⟨oc_plans_in, od_plans_in, .func (PySem.W.fnOf "plans_in" "plans_in" (C8.fnArgs s_plans_in) (C8.fnBody s_plans_in) (C8.fnScope s_plans_in) .none kV_plans_in dc_plans_in pm_plans_in an_plans_in cd_plans_in ct_plans_in), sl_plans_in⟩)
    (c_plans_in : PySem.W.codeIn K cd_plans_in "plans_in" = true)
    (k_plans_in : PySem.W.keepIn K (.ref f_plans_in) = true)
    (a_check_plan : PySem.W.nsIn K mainGlobals "check_plan" = some (some (.ref f_check_plan)))
    (l_check_plan : K.lookup f_check_plan = some ⟨oc_check_plan, od_check_plan, .func (PySem.W.fnOf "check_plan" "check_plan" (C8.fnArgs s_check_plan) (C8.fnBody s_check_plan) (C8.fnScope s_check_plan) .none kV_check_plan dc_check_plan pm_check_plan an_check_plan cd_check_plan ct_check_plan), sl_check_plan⟩)
    (c_check_plan : PySem.W.codeIn K cd_check_plan "check_plan" = true)
    (k_check_plan : PySem.W.keepIn K (.ref f_check_plan) = true)
    (a_run_plan : PySem.W.nsIn K mainGlobals "run_plan" = some (some (.ref f_run_plan)))
    (l_run_plan : K.lookup f_run_plan = some ⟨oc_run_plan, od_run_plan, .func (PySem.W.fnOf "run_plan" "run_plan" (C8.fnArgs s_run_plan) (C8.fnBody s_run_plan) (C8.fnScope s_run_plan) .none kV_run_plan dc_run_plan pm_run_plan an_run_plan cd_run_plan ct_run_plan), sl_run_plan⟩)
    (c_run_plan : PySem.W.codeIn K cd_run_plan "run_plan" = true)
    (k_run_plan : PySem.W.keepIn K (.ref f_run_plan) = true)
    (a_law_start : PySem.W.nsIn K mainGlobals "_law_start" = some (some (.ref f_law_start)))
    (l_law_start : K.lookup f_law_start = some ⟨oc_law_start, od_law_start, .func (PySem.W.fnOf "_law_start" "_law_start" (C8.fnArgs s_law_start) (C8.fnBody s_law_start) (C8.fnScope s_law_start) .none kV_law_start dc_law_start pm_law_start an_law_start cd_law_start ct_law_start), sl_law_start⟩)
    (c_law_start : PySem.W.codeIn K cd_law_start "_law_start" = true)
    (k_law_start : PySem.W.keepIn K (.ref f_law_start) = true)
    (a_law_drawn : PySem.W.nsIn K mainGlobals "_law_drawn" = some (some (.ref f_law_drawn)))
    (l_law_drawn : K.lookup f_law_drawn = some ⟨oc_law_drawn, od_law_drawn, .func (PySem.W.fnOf "_law_drawn" "_law_drawn" (C8.fnArgs s_law_drawn) (C8.fnBody s_law_drawn) (C8.fnScope s_law_drawn) .none kV_law_drawn dc_law_drawn pm_law_drawn an_law_drawn cd_law_drawn ct_law_drawn), sl_law_drawn⟩)
    (c_law_drawn : PySem.W.codeIn K cd_law_drawn "_law_drawn" = true)
    (k_law_drawn : PySem.W.keepIn K (.ref f_law_drawn) = true)
    (a_law_same : PySem.W.nsIn K mainGlobals "_law_same" = some (some (.ref f_law_same)))
    (l_law_same : K.lookup f_law_same = some ⟨oc_law_same, od_law_same, .func (PySem.W.fnOf "_law_same" "_law_same" (C8.fnArgs s_law_same) (C8.fnBody s_law_same) (C8.fnScope s_law_same) .none kV_law_same dc_law_same pm_law_same an_law_same cd_law_same ct_law_same), sl_law_same⟩)
    (c_law_same : PySem.W.codeIn K cd_law_same "_law_same" = true)
    (k_law_same : PySem.W.keepIn K (.ref f_law_same) = true)
    (a_law_plan : PySem.W.nsIn K mainGlobals "_law_plan" = some (some (.ref f_law_plan)))
    (l_law_plan : K.lookup f_law_plan = some ⟨oc_law_plan, od_law_plan, .func (PySem.W.fnOf "_law_plan" "_law_plan" (C8.fnArgs s_law_plan) (C8.fnBody s_law_plan) (C8.fnScope s_law_plan) .none kV_law_plan dc_law_plan pm_law_plan an_law_plan cd_law_plan ct_law_plan), sl_law_plan⟩)
    (c_law_plan : PySem.W.codeIn K cd_law_plan "_law_plan" = true)
    (k_law_plan : PySem.W.keepIn K (.ref f_law_plan) = true)
    (a_law_count : PySem.W.nsIn K mainGlobals "_law_count" = some (some (.ref f_law_count)))
    (l_law_count : K.lookup f_law_count = some ⟨oc_law_count, od_law_count, .func (PySem.W.fnOf "_law_count" "_law_count" (C8.fnArgs s_law_count) (C8.fnBody s_law_count) (C8.fnScope s_law_count) .none kV_law_count dc_law_count pm_law_count an_law_count cd_law_count ct_law_count), sl_law_count⟩)
    (c_law_count : PySem.W.codeIn K cd_law_count "_law_count" = true)
    (k_law_count : PySem.W.keepIn K (.ref f_law_count) = true)
    (a_law_good : PySem.W.nsIn K mainGlobals "_law_good" = some (some (.ref f_law_good)))
    (l_law_good : K.lookup f_law_good = some ⟨oc_law_good, od_law_good, .func (PySem.W.fnOf "_law_good" "_law_good" (C8.fnArgs s_law_good) (C8.fnBody s_law_good) (C8.fnScope s_law_good) .none kV_law_good dc_law_good pm_law_good an_law_good cd_law_good ct_law_good), sl_law_good⟩)
    (c_law_good : PySem.W.codeIn K cd_law_good "_law_good" = true)
    (k_law_good : PySem.W.keepIn K (.ref f_law_good) = true)
    (a_law_delays : PySem.W.nsIn K mainGlobals "_law_delays" = some (some (.ref f_law_delays)))
    (l_law_delays : K.lookup f_law_delays = some ⟨oc_law_delays, od_law_delays, .func (PySem.W.fnOf "_law_delays" "_law_delays" (C8.fnArgs s_law_delays) (C8.fnBody s_law_delays) (C8.fnScope s_law_delays) .none kV_law_delays dc_law_delays pm_law_delays an_law_delays cd_law_delays ct_law_delays), sl_law_delays⟩)
    (c_law_delays : PySem.W.codeIn K cd_law_delays "_law_delays" = true)
    (k_law_delays : PySem.W.keepIn K (.ref f_law_delays) = true)
    (a_law_done : PySem.W.nsIn K mainGlobals "_law_done" = some (some (.ref f_law_done)))
    (l_law_done : K.lookup f_law_done = some ⟨oc_law_done, od_law_done, .func (PySem.W.fnOf "_law_done" "_law_done" (C8.fnArgs s_law_done) (C8.fnBody s_law_done) (C8.fnScope s_law_done) .none kV_law_done dc_law_done pm_law_done an_law_done cd_law_done ct_law_done), sl_law_done⟩)
    (c_law_done : PySem.W.codeIn K cd_law_done "_law_done" = true)
    (k_law_done : PySem.W.keepIn K (.ref f_law_done) = true)
    (a_law_greater : PySem.W.nsIn K mainGlobals "_law_greater" = some (some (.ref f_law_greater)))
    (l_law_greater : K.lookup f_law_greater = some ⟨oc_law_greater, od_law_greater, .func (PySem.W.fnOf "_law_greater" "_law_greater" (C8.fnArgs s_law_greater) (C8.fnBody s_law_greater) (C8.fnScope s_law_greater) .none kV_law_greater dc_law_greater pm_law_greater an_law_greater cd_law_greater ct_law_greater), sl_law_greater⟩)
    (c_law_greater : PySem.W.codeIn K cd_law_greater "_law_greater" = true)
    (k_law_greater : PySem.W.keepIn K (.ref f_law_greater) = true)
    (a_law : PySem.W.nsIn K mainGlobals "law" = some (some (.ref fa0)))
    (l_law : K.lookup fa0 = some ⟨oc_law, od_law, .func (PySem.W.fnOf "law" "law" (C8.fnArgs s_law) (C8.fnBody s_law) (C8.fnScope s_law) .none kV_law dc_law pm_law an_law cd_law ct_law), sl_law⟩)
    (c_law : PySem.W.codeIn K cd_law "law" = true)
    (k_law : PySem.W.keepIn K (.ref fa0) = true)
    (aC_Run : PySem.W.nsIn K mainGlobals "Run" = some (some (.ref C_Run)))
    (a_Run_init : PySem.W.findIn K (.ref C_Run) "__init__" = some (some (.ref f_Run_init)))
    (i_Run_init : PySem.W.isFn K (.ref f_Run_init) = true)
    (l_Run_init : K.lookup f_Run_init = some ⟨oc_Run_init, od_Run_init, .func (PySem.W.fnOf "__init__" "Run.__init__" (C8.fnArgs s_Run_init) (C8.fnBody s_Run_init) (C8.fnScope s_Run_init) .none kV_Run_init dc_Run_init pm_Run_init an_Run_init cd_Run_init ct_Run_init), sl_Run_init⟩)
    (c_Run_init : PySem.W.codeIn K cd_Run_init "Run.__init__" = true)
    (k_Run_init : PySem.W.keepIn K (.ref f_Run_init) = true)
    (a_Run_take : PySem.W.findIn K (.ref C_Run) "take" = some (some (.ref f_Run_take)))
    (i_Run_take : PySem.W.isFn K (.ref f_Run_take) = true)
    (l_Run_take : K.lookup f_Run_take = some ⟨oc_Run_take, od_Run_take, .func (PySem.W.fnOf "take" "Run.take" (C8.fnArgs s_Run_take) (C8.fnBody s_Run_take) (C8.fnScope s_Run_take) .none kV_Run_take dc_Run_take pm_Run_take an_Run_take cd_Run_take ct_Run_take), sl_Run_take⟩)
    (c_Run_take : PySem.W.codeIn K cd_Run_take "Run.take" = true)
    (k_Run_take : PySem.W.keepIn K (.ref f_Run_take) = true)
    (a_Run_follow : PySem.W.findIn K (.ref C_Run) "follow" = some (some (.ref f_Run_follow)))
    (i_Run_follow : PySem.W.isFn K (.ref f_Run_follow) = true)
    (l_Run_follow : K.lookup f_Run_follow = some ⟨oc_Run_follow, od_Run_follow, .func (PySem.W.fnOf "follow" "Run.follow" (C8.fnArgs s_Run_follow) (C8.fnBody s_Run_follow) (C8.fnScope s_Run_follow) .none kV_Run_follow dc_Run_follow pm_Run_follow an_Run_follow cd_Run_follow ct_Run_follow), sl_Run_follow⟩)
    (c_Run_follow : PySem.W.codeIn K cd_Run_follow "Run.follow" = true)
    (k_Run_follow : PySem.W.keepIn K (.ref f_Run_follow) = true)
    (pg_Run : PySem.W.plainGet K C_Run Str.empty = true)
    (hdd_Run : PySem.W.hasDictIn K C_Run = true)
    (po_Run : PySem.W.plainOver K C_Run = true)
    (sa_Run : PySem.W.findIn K (.ref C_Run) "__setattr__" = some (some (.builtin "object.__setattr__")))
    (mk_Run : PySem.W.makesIn K C_Run = true)
    (kc_Run : PySem.W.keepIn K (.ref C_Run) = true)
    (n_Run_delays : PySem.W.findIn K (.ref C_Run) "delays" = some none)
    (n_Run_used : PySem.W.findIn K (.ref C_Run) "used" = some none)
    (n_Run_now : PySem.W.findIn K (.ref C_Run) "now" = some none)
    (n_Run_pats : PySem.W.findIn K (.ref C_Run) "pats" = some none)
    (z_isinstance : PySem.W.nsIn K mainGlobals "isinstance" = some none)
    (z_len : PySem.W.nsIn K mainGlobals "len" = some none)
    (z_int : PySem.W.nsIn K mainGlobals "int" = some none)
    (z_bool : PySem.W.nsIn K mainGlobals "bool" = some none)
    (z_range : PySem.W.nsIn K mainGlobals "range" = some none)
    (z_list : PySem.W.nsIn K mainGlobals "list" = some none)
    (z_tuple : PySem.W.nsIn K mainGlobals "tuple" = some none)
    (z_str : PySem.W.nsIn K mainGlobals "str" = some none)
    (z_sum : PySem.W.nsIn K mainGlobals "sum" = some none)
    (q_LONGEST_WORK : PySem.W.nsIn K mainGlobals "LONGEST_WORK" = some (some (.int 1000 t_LONGEST_WORK)))
    (q_MOST_TIMES : PySem.W.nsIn K mainGlobals "MOST_TIMES" = some (some (.int 9 t_MOST_TIMES)))
    (q_LONGEST_ROW : PySem.W.nsIn K mainGlobals "LONGEST_ROW" = some (some (.int 20 t_LONGEST_ROW)))
    (q_MOST_PLANS : PySem.W.nsIn K mainGlobals "MOST_PLANS" = some (some (.int 30 t_MOST_PLANS)))
    (q_MOST_DEEP : PySem.W.nsIn K mainGlobals "MOST_DEEP" = some (some (.int 6 t_MOST_DEEP)))
    (q_MOST_LOOPS : PySem.W.nsIn K mainGlobals "MOST_LOOPS" = some (some (.int 2 t_MOST_LOOPS))) :
    ∃ fd : FuncData, (∀ (s : Shared) (v : Value), BindsTo s fd ⟨[v], []⟩ [("_law_script", v)]) ∧ ∀ base : Heap, K.In base → base.Ns mainGlobals mg → FnOk l.prog w K mg base C8.CX0 9 fa fd ["_law_script"] (sp_law K) := by
  have e := hfa.symm.trans (PySem.W.mg_of X G a_law)
  cases e
  have D_is_number : C8.Def K mg "is_number" s_is_number f_is_number _ := ⟨⟨_, _, _, _, _, _, _, _, _, _, rfl, l_is_number, c_is_number⟩, PySem.W.mg_of X G a_is_number, k_is_number⟩
  have B_is_number := C8.Fun.binds (ps := ["value"]) D_is_number.fn rfl fun _ _ _ _ _ _ us hl => match us, hl with | [_], _ => rfl
  have D_is_range : C8.Def K mg "is_range" s_is_range f_is_range _ := ⟨⟨_, _, _, _, _, _, _, _, _, _, rfl, l_is_range, c_is_range⟩, PySem.W.mg_of X G a_is_range, k_is_range⟩
  have B_is_range := C8.Fun.binds (ps := ["least", "most", "limit"]) D_is_range.fn rfl fun _ _ _ _ _ _ us hl => match us, hl with | [_, _, _], _ => rfl
  have D_has_form : C8.Def K mg "has_form" s_has_form f_has_form _ := ⟨⟨_, _, _, _, _, _, _, _, _, _, rfl, l_has_form, c_has_form⟩, PySem.W.mg_of X G a_has_form, k_has_form⟩
  have B_has_form := C8.Fun.binds (ps := ["plan"]) D_has_form.fn rfl fun _ _ _ _ _ _ us hl => match us, hl with | [_], _ => rfl
  have D_plans_in : C8.Def K mg "plans_in" s_plans_in f_plans_in _ := ⟨⟨_, _, _, _, _, _, _, _, _, _, rfl, l_plans_in, c_plans_in⟩, PySem.W.mg_of X G a_plans_in, k_plans_in⟩
  have B_plans_in := C8.Fun.binds (ps := ["plan"]) D_plans_in.fn rfl fun _ _ _ _ _ _ us hl => match us, hl with | [_], _ => rfl
  have D_check_plan : C8.Def K mg "check_plan" s_check_plan f_check_plan _ := ⟨⟨_, _, _, _, _, _, _, _, _, _, rfl, l_check_plan, c_check_plan⟩, PySem.W.mg_of X G a_check_plan, k_check_plan⟩
  have B_check_plan := C8.Fun.binds (ps := ["plan"]) D_check_plan.fn rfl fun _ _ _ _ _ _ us hl => match us, hl with | [_], _ => rfl
  have D_run_plan : C8.Def K mg "run_plan" s_run_plan f_run_plan _ := ⟨⟨_, _, _, _, _, _, _, _, _, _, rfl, l_run_plan, c_run_plan⟩, PySem.W.mg_of X G a_run_plan, k_run_plan⟩
  have B_run_plan := C8.Fun.binds (ps := ["plan", "delays"]) D_run_plan.fn rfl fun _ _ _ _ _ _ us hl => match us, hl with | [_, _], _ => rfl
  have D_law_start : C8.Def K mg "_law_start" s_law_start f_law_start _ := ⟨⟨_, _, _, _, _, _, _, _, _, _, rfl, l_law_start, c_law_start⟩, PySem.W.mg_of X G a_law_start, k_law_start⟩
  have B_law_start := C8.Fun.binds (ps := ["_law_script"]) D_law_start.fn rfl fun _ _ _ _ _ _ us hl => match us, hl with | [_], _ => rfl
  have D_law_drawn : C8.Def K mg "_law_drawn" s_law_drawn f_law_drawn _ := ⟨⟨_, _, _, _, _, _, _, _, _, _, rfl, l_law_drawn, c_law_drawn⟩, PySem.W.mg_of X G a_law_drawn, k_law_drawn⟩
  have B_law_drawn := C8.Fun.binds (ps := ["_law_state", "_law_many"]) D_law_drawn.fn rfl fun _ _ _ _ _ _ us hl => match us, hl with | [_, _], _ => rfl
  have D_law_same : C8.Def K mg "_law_same" s_law_same f_law_same _ := ⟨⟨_, _, _, _, _, _, _, _, _, _, rfl, l_law_same, c_law_same⟩, PySem.W.mg_of X G a_law_same, k_law_same⟩
  have B_law_same := C8.Fun.binds (ps := ["_law_found", "_law_due"]) D_law_same.fn rfl fun _ _ _ _ _ _ us hl => match us, hl with | [_, _], _ => rfl
  have D_law_plan : C8.Def K mg "_law_plan" s_law_plan f_law_plan _ := ⟨⟨_, _, _, _, _, _, _, _, _, _, rfl, l_law_plan, c_law_plan⟩, PySem.W.mg_of X G a_law_plan, k_law_plan⟩
  have B_law_plan := C8.Fun.binds (ps := ["_law_state", "_law_deep", "_law_loops"]) D_law_plan.fn rfl fun _ _ _ _ _ _ us hl => match us, hl with | [_, _, _], _ => rfl
  have D_law_count : C8.Def K mg "_law_count" s_law_count f_law_count _ := ⟨⟨_, _, _, _, _, _, _, _, _, _, rfl, l_law_count, c_law_count⟩, PySem.W.mg_of X G a_law_count, k_law_count⟩
  have B_law_count := C8.Fun.binds (ps := ["_law_plan_here"]) D_law_count.fn rfl fun _ _ _ _ _ _ us hl => match us, hl with | [_], _ => rfl
  have D_law_good : C8.Def K mg "_law_good" s_law_good f_law_good _ := ⟨⟨_, _, _, _, _, _, _, _, _, _, rfl, l_law_good, c_law_good⟩, PySem.W.mg_of X G a_law_good, k_law_good⟩
  have B_law_good := C8.Fun.binds (ps := ["_law_state", "_law_deep", "_law_loops"]) D_law_good.fn rfl fun _ _ _ _ _ _ us hl => match us, hl with | [_, _, _], _ => rfl
  have D_law_delays : C8.Def K mg "_law_delays" s_law_delays f_law_delays _ := ⟨⟨_, _, _, _, _, _, _, _, _, _, rfl, l_law_delays, c_law_delays⟩, PySem.W.mg_of X G a_law_delays, k_law_delays⟩
  have B_law_delays := C8.Fun.binds (ps := ["_law_state", "_law_plan_here", "_law_found"]) D_law_delays.fn rfl fun _ _ _ _ _ _ us hl => match us, hl with | [_, _, _], _ => rfl
  have D_law_done : C8.Def K mg "_law_done" s_law_done f_law_done _ := ⟨⟨_, _, _, _, _, _, _, _, _, _, rfl, l_law_done, c_law_done⟩, PySem.W.mg_of X G a_law_done, k_law_done⟩
  have B_law_done := C8.Fun.binds (ps := ["_law_plan_here", "_law_delays_here", "_law_pats", "_law_now"]) D_law_done.fn rfl fun _ _ _ _ _ _ us hl => match us, hl with | [_, _, _, _], _ => rfl
  have D_law_greater : C8.Def K mg "_law_greater" s_law_greater f_law_greater _ := ⟨⟨_, _, _, _, _, _, _, _, _, _, rfl, l_law_greater, c_law_greater⟩, PySem.W.mg_of X G a_law_greater, k_law_greater⟩
  have B_law_greater := C8.Fun.binds (ps := ["_law_state", "_law_plan_here"]) D_law_greater.fn rfl fun _ _ _ _ _ _ us hl => match us, hl with | [_, _], _ => rfl
  have F_Run_init : C8.Fun K "__init__" "Run.__init__" s_Run_init f_Run_init _ := ⟨_, _, _, _, _, _, _, _, _, _, rfl, l_Run_init, c_Run_init⟩
  have B_Run_init := C8.Fun.binds (ps := ["self", "delays"]) F_Run_init rfl fun _ _ _ _ _ _ us hl => match us, hl with | [_, _], _ => rfl
  have F_Run_take : C8.Fun K "take" "Run.take" s_Run_take f_Run_take _ := ⟨_, _, _, _, _, _, _, _, _, _, rfl, l_Run_take, c_Run_take⟩
  have B_Run_take := C8.Fun.binds (ps := ["self", "least", "most"]) F_Run_take rfl fun _ _ _ _ _ _ us hl => match us, hl with | [_, _, _], _ => rfl
  have F_Run_follow : C8.Fun K "follow" "Run.follow" s_Run_follow f_Run_follow _ := ⟨_, _, _, _, _, _, _, _, _, _, rfl, l_Run_follow, c_Run_follow⟩
  have B_Run_follow := C8.Fun.binds (ps := ["self", "plan"]) F_Run_follow rfl fun _ _ _ _ _ _ us hl => match us, hl with | [_, _], _ => rfl
  have T0 : Txt K mg := ⟨PySem.W.mg_none_of X G z_isinstance, PySem.W.mg_none_of X G z_len, PySem.W.mg_none_of X G z_int, PySem.W.mg_none_of X G z_bool, PySem.W.mg_none_of X G z_range, PySem.W.mg_none_of X G z_list, PySem.W.mg_none_of X G z_tuple, PySem.W.mg_none_of X G z_str, PySem.W.mg_none_of X G z_sum⟩
  have T : TxtP K mg := ⟨T0, ⟨_, PySem.W.mg_of X G q_LONGEST_WORK⟩, ⟨_, PySem.W.mg_of X G q_MOST_TIMES⟩, ⟨_, PySem.W.mg_of X G q_LONGEST_ROW⟩, ⟨_, PySem.W.mg_of X G q_MOST_PLANS⟩, ⟨_, PySem.W.mg_of X G q_MOST_DEEP⟩, ⟨_, PySem.W.mg_of X G q_MOST_LOOPS⟩⟩
  have TR : TxtR K C_Run := ⟨⟨pg_Run, hdd_Run, po_Run, sa_Run⟩, n_Run_delays, n_Run_used, n_Run_now, n_Run_pats⟩
  have D_law : C8.Def K mg "law" s_law _ _ := ⟨⟨_, _, _, _, _, _, _, _, _, _, rfl, l_law, c_law⟩, PySem.W.mg_of X G a_law, k_law⟩
  refine ⟨PySem.W.fnOf "law" "law" (C8.fnArgs s_law) (C8.fnBody s_law) (C8.fnScope s_law) .none kV_law dc_law pm_law an_law cd_law ct_law, fun s u => .of_eq rfl, fun base KB GB => ?_⟩
  have g0 := ok_is_number (P := l.prog) (w := w) (base := base) T D_is_number B_is_number
  have g1 := ok_is_range T D_is_range B_is_range g0
  have g2 := ok_has_form T D_has_form B_has_form g1
  have g3 := ok_plans_in (P := l.prog) (w := w) (base := base) T D_plans_in B_plans_in
  have g4 := ok_check_plan T D_check_plan B_check_plan g2 g3
  have m1 := ok_take T TR ⟨a_Run_take, i_Run_take, k_Run_take⟩ F_Run_take B_Run_take g0
  have m2 := ok_follow T TR ⟨a_Run_follow, i_Run_follow, k_Run_follow⟩ F_Run_follow B_Run_follow m1 5
  have m0 := ok_init (P := l.prog) (w := w) (base := base) T TR ⟨mk_Run, a_Run_init, i_Run_init, kc_Run⟩ (PySem.W.mg_of X G aC_Run) F_Run_init B_Run_init
  have g5 := ok_run_plan T TR D_run_plan B_run_plan g4 m0 m2
  have h1 := ok_start (P := l.prog) (w := w) (base := base) T0 D_law_start B_law_start
  have h2 := ok_drawn (P := l.prog) (w := w) (base := base) T0 D_law_drawn B_law_drawn
  have h3 := ok_plan T0 D_law_plan B_law_plan h2 5
  have h4 := ok_count (P := l.prog) (w := w) (base := base) T0 D_law_count B_law_count 5
  have h5 := ok_good (d := 3) T0 D_law_good B_law_good h3 h4
  exact ok_law T D_law h1 h2 h5 (ok_greater T0 D_law_greater B_law_greater h2 5) (ok_delays T0 D_law_delays B_law_delays h2 5) (ok_done T0 D_law_done B_law_done 5) (ok_same T0 D_law_same B_law_same 3) g5
theorem walk {l : PySem.W.OpenLaw} {q : Program} {loose : List Str} {XP : (Str → Option Value) → Heap → Prop} {YP : World → Heap → Prop} {d : DefRec} {K : Params → PySem.W.Frag} (hn : l.most = some 63) (hdf : d.params.defaults = [])
    (hY : ∀ (w : World) (h : Heap), YP w h → (K w.params).In h)
    (F : ∀ (w : World) (mg : Str → Option Value) (fa : Addr) (h : Heap), (K w.params).In h → h.Ns mainGlobals mg → mg d.name = some (.ref fa) →
      ∃ fd : FuncData, (∀ (s : Shared) (v : Value), BindsTo s fd ⟨[v], []⟩ [("_law_script", v)]) ∧ ∀ base : Heap, (K w.params).In base → base.Ns mainGlobals mg → FnOk l.prog w (K w.params) mg base C8.CX0 9 fa fd ["_law_script"] (sp_law (K w.params))) :
    PySem.W.WalkO q loose XP YP l.row.toRowW d [] (fun f vs => PySem.call f vs) :=
  L2.walk_ofK (n := 63) (k := 9) (CX := C8.CX0) (sp := sp_law) hn (by decide) hdf ⟨rfl, by decide, by decide⟩ hY F (fun K H a ns hl _ hS => ⟨a, ns, rfl, hS, hl, fun _ => rfl⟩) fun _ _ _ _ z => z
end K03
open PySem PySem.W PyProof.Rows
set_option maxRecDepth 100000 in
set_option maxHeartbeats 0 in
theorem PySem.Challenge.cw_windowdog_k03_plans_run_holds : PySem.Challenge.rw_windowdog_k03_plans_run.Holds := by
  w_on; o_law; k_head; (case hw => w_witness2)
  k_fill
  refine K03.walk (l := PySem.Challenge.rw_windowdog_k03_plans_run) rfl rfl (fun w h Y => PySem.W.kIn_of Y) ?F
  case F =>
    intro w mg fa h KX G hmg
    refine' K03.law_at KX G hmg ?a_is_number ?l_is_number ?c_is_number ?k_is_number ?a_is_range ?l_is_range ?c_is_range ?k_is_range ?a_has_form ?l_has_form ?c_has_form ?k_has_form ?a_plans_in ?l_plans_in ?c_plans_in ?k_plans_in ?a_check_plan ?l_check_plan ?c_check_plan ?k_check_plan ?a_run_plan ?l_run_plan ?c_run_plan ?k_run_plan ?a_law_start ?l_law_start ?c_law_start ?k_law_start ?a_law_drawn ?l_law_drawn ?c_law_drawn ?k_law_drawn ?a_law_same ?l_law_same ?c_law_same ?k_law_same ?a_law_plan ?l_law_plan ?c_law_plan ?k_law_plan ?a_law_count ?l_law_count ?c_law_count ?k_law_count ?a_law_good ?l_law_good ?c_law_good ?k_law_good ?a_law_delays ?l_law_delays ?c_law_delays ?k_law_delays ?a_law_done ?l_law_done ?c_law_done ?k_law_done ?a_law_greater ?l_law_greater ?c_law_greater ?k_law_greater ?a_law ?l_law ?c_law ?k_law ?aC_Run ?a_Run_init ?i_Run_init ?l_Run_init ?c_Run_init ?k_Run_init ?a_Run_take ?i_Run_take ?l_Run_take ?c_Run_take ?k_Run_take ?a_Run_follow ?i_Run_follow ?l_Run_follow ?c_Run_follow ?k_Run_follow ?pg_Run ?hdd_Run ?po_Run ?sa_Run ?mk_Run ?kc_Run ?n_Run_delays ?n_Run_used ?n_Run_now ?n_Run_pats ?z_isinstance ?z_len ?z_int ?z_bool ?z_range ?z_list ?z_tuple ?z_str ?z_sum ?q_LONGEST_WORK ?q_MOST_TIMES ?q_LONGEST_ROW ?q_MOST_PLANS ?q_MOST_DEEP ?q_MOST_LOOPS
    (case a_is_number => k_is)
    (case l_is_number => k_is)
    (case c_is_number => k_is)
    (case k_is_number => k_is)
    (case a_is_range => k_is)
    (case l_is_range => k_is)
    (case c_is_range => k_is)
    (case k_is_range => k_is)
    (case a_has_form => k_is)
    (case l_has_form => k_is)
    (case c_has_form => k_is)
    (case k_has_form => k_is)
    (case a_plans_in => k_is)
    (case l_plans_in => k_is)
    (case c_plans_in => k_is)
    (case k_plans_in => k_is)
    (case a_check_plan => k_is)
    (case l_check_plan => k_is)
    (case c_check_plan => k_is)
    (case k_check_plan => k_is)
    (case a_run_plan => k_is)
    (case l_run_plan => k_is)
    (case c_run_plan => k_is)
    (case k_run_plan => k_is)
    (case a_law_start => k_is)
    (case l_law_start => k_is)
    (case c_law_start => k_is)
    (case k_law_start => k_is)
    (case a_law_drawn => k_is)
    (case l_law_drawn => k_is)
    (case c_law_drawn => k_is)
    (case k_law_drawn => k_is)
    (case a_law_same => k_is)
    (case l_law_same => k_is)
    (case c_law_same => k_is)
    (case k_law_same => k_is)
    (case a_law_plan => k_is)
    (case l_law_plan => k_is)
    (case c_law_plan => k_is)
    (case k_law_plan => k_is)
    (case a_law_count => k_is)
    (case l_law_count => k_is)
    (case c_law_count => k_is)
    (case k_law_count => k_is)
    (case a_law_good => k_is)
    (case l_law_good => k_is)
    (case c_law_good => k_is)
    (case k_law_good => k_is)
    (case a_law_delays => k_is)
    (case l_law_delays => k_is)
    (case c_law_delays => k_is)
    (case k_law_delays => k_is)
    (case a_law_done => k_is)
    (case l_law_done => k_is)
    (case c_law_done => k_is)
    (case k_law_done => k_is)
    (case a_law_greater => k_is)
    (case l_law_greater => k_is)
    (case c_law_greater => k_is)
    (case k_law_greater => k_is)
    (case a_law => k_is)
    (case l_law => k_is)
    (case c_law => k_is)
    (case k_law => k_is)
    (case aC_Run => k_is)
    (case a_Run_init => k_is)
    (case i_Run_init => k_is)
    (case l_Run_init => k_is)
    (case c_Run_init => k_is)
    (case k_Run_init => k_is)
    (case a_Run_take => k_is)
    (case i_Run_take => k_is)
    (case l_Run_take => k_is)
    (case c_Run_take => k_is)
    (case k_Run_take => k_is)
    (case a_Run_follow => k_is)
    (case i_Run_follow => k_is)
    (case l_Run_follow => k_is)
    (case c_Run_follow => k_is)
    (case k_Run_follow => k_is)
    (case pg_Run => k_is)
    (case hdd_Run => k_is)
    (case po_Run => k_is)
    (case sa_Run => k_is)
    (case mk_Run => k_is)
    (case kc_Run => k_is)
    (case n_Run_delays => k_is)
    (case n_Run_used => k_is)
    (case n_Run_now => k_is)
    (case n_Run_pats => k_is)
    (case z_isinstance => k_is)
    (case z_len => k_is)
    (case z_int => k_is)
    (case z_bool => k_is)
    (case z_range => k_is)
    (case z_list => k_is)
    (case z_tuple => k_is)
    (case z_str => k_is)
    (case z_sum => k_is)
    (case q_LONGEST_WORK => k_is)
    (case q_MOST_TIMES => k_is)
    (case q_LONGEST_ROW => k_is)
    (case q_MOST_PLANS => k_is)
    (case q_MOST_DEEP => k_is)
    (case q_MOST_LOOPS => k_is)
