import PyProof.Rows.All
import Wide.All
import OpenK.AllK
import Wide.FinOn
import HandS.ForMost
import HandS.ForExc
import HandS.Codes
import HandS.Lambda
import HandS.EndTab
import HandS.IsInst
import HandS.ExcIs
import HandS.Wide
import HandS.SetFor
import HandS.TupMul
import HandS.Conv
import HandS.Zip
import PySem.Challenge.RW_windowdog_k12_whole_a_task_that_hangs_is
set_option Elab.async false
set_option linter.all false
set_option maxRecDepth 100000
set_option maxHeartbeats 4000000
/-! The readings step by step; heaps in which one list (the drawing's) changes. -/
namespace Wd
open PySem PySem.Spec PyProof.Rows L2

/-! ### rules -/
section
variable {X : Cx} {a b c d : Expr} {ta tb tc td : TE} {pos : Pos}
def tChain3 (r r' r2 : R2) (ta tb tc td : TE) : TE := fun σ H Q => ta σ H fun x H1 => tb σ H1 fun y H2 => r x y H2 fun z H3 => ∃ k, z = .bl k ∧
  (if k = true then tc σ H3 fun w' H4 => r' y w' H4 fun z2 H5 => ∃ k2, z2 = .bl k2 ∧ (if k2 = true then td σ H5 fun w2 H6 => r2 w' w2 H6 Q else Q (.bl false) H5) else Q (.bl false) H3)
theorem pe_chain3 {op op' op2 : CmpOp} {r r' r2 : R2} (ho : OpR X (compareOp op) r) (ho' : OpR X (compareOp op') r') (ho2 : OpR X (compareOp op2) r2) (ha : PE X a ta) (hb : PE X b tb) (hc : PE X c tc) (hd : PE X d td)
    (hm : lastMarks [op, op', op2] [b, c, d] = false := by with_unfolding_all rfl) : PE X (.Compare a [op, op', op2] [b, c, d] pos) (tChain3 r r' r2 ta tb tc td) := by
  refine ⟨fun pins s σ H Q I h => ?_⟩
  refine Compare_chain (thn (ha.run pins s σ H _ I h) fun v s1 ⟨x, H1, I1, r1, q1⟩ => chain_link (thn (hb.run pins s1 σ H1 _ I1 q1) fun u s2 ⟨y, H2, I2, r2, q2⟩ =>
    thn (ho pins s2 σ H2 x y v u _ I2 r1 r2 q2) fun d s3 ⟨z, H3, I3, r3, k, e, q3⟩ => ?_)) hm
  subst e
  cases r3
  refine wpAny_truthy_bool ?_
  cases k with
  | false => exact ite_ff ⟨.bl false, H3, I3, rfl, q3⟩
  | true =>
    refine ite_tt (chain_link (thn (hc.run pins s3 σ H3 _ I3 q3) fun w' s4 ⟨z', H4, I4, r4, q4⟩ => thn (ho' pins s4 σ H4 y z' u w' _ I4 r2 r4 q4) fun d5 s5 ⟨z5, H5, I5, r5, k5, e5, q5⟩ => ?_))
    subst e5
    cases r5
    refine wpAny_truthy_bool ?_
    cases k5 with
    | false => exact ite_ff ⟨.bl false, H5, I5, rfl, q5⟩
    | true => exact ite_tt (chain_last (thn (hd.run pins s5 σ H5 _ I5 q5) fun w6 s6 ⟨z6, H6, I6, r6, q6⟩ => ho2 pins s6 σ H6 z' z6 w' w6 Q I6 r4 r6 q6))
end

section
variable {X : Cx} {K : PySem.W.Frag} {name : Str} {T id : String} {r : V → List V → Hp → VK → Prop} {o e : Expr} {es : List Expr} {to : TE} {t : TA} {apos cpos : Pos}
theorem pe_bmK (hK : X.K = K) (pa : PlainAttrs T) (slot : Slot T name id) (hty : typeOf (.builtin id) = pure (.type "method_descriptor")) (hm : MtR X id r) (ho : PE X o to) (ha : PA X (e :: es) t)
    (hbase : attributeBase o name X.env (eval o X.env) = eval o X.env := by rfl)
    (hfew : ((backTo cpos (starEach (e :: es) X.env)).all (fun x => !x.1) && (backToKw cpos (keywordEach [] X.env)).all (fun x => x.1.isSome)
      && decide ((e :: es).length + ([] : List Keyword).length + (if ([] : List Keyword).isEmpty then 0 else 1) < 30)) = true := by rfl)
    (hline : (apos.endLine == cpos.line) = true := by rfl) (hs : starEach (e :: es) X.env = (false, eval e X.env) :: starEach es X.env := by rfl) (hplain : (backTo cpos (starEach es X.env)).any (·.1) = false := by rfl) : PE X (.Call (.Attribute o name apos) (e :: es) [] cpos) (tBM K T r to t) := by
  subst hK; exact pe_bm pa slot hty hm ho ha hbase hfew hline hs hplain
theorem pe_bm0K (hK : X.K = K) (pa : PlainAttrs T) (slot : Slot T name id) (hty : typeOf (.builtin id) = pure (.type "method_descriptor")) (hm : MtR X id r) (ho : PE X o to)
    (hbase : attributeBase o name X.env (eval o X.env) = eval o X.env := by rfl) (hline : (apos.endLine == cpos.line) = true := by rfl) : PE X (.Call (.Attribute o name apos) [] [] cpos) (tBM0 K T r to) := by
  subst hK; exact pe_bm0 pa slot hty hm ho hbase hline
end

/-- a def of the module that may let an exception out -/
structure CalX (P : Program) (w : World) (K : PySem.W.Frag) (mg : Str → Option Value) (base : Heap) (k : Nat) (x : Str) (sp : Sp) : Prop where
  ex : ∃ (f : Addr) (fd : FuncData) (ps : List Str), FnOk P w K mg base (L2.CX P w) k f fd ps sp ∧ mg x = some (.ref f) ∧ PySem.W.keepIn K (.ref f) = true ∧ Binds K fd ps []
section
variable {X : Cx} {k j : Nat} {x : Str} {sp : Sp} {p pos : Pos} {e : Expr} {es : List Expr} {t : TA} {E : L2.St → XK}
theorem pe_cX (c : CalX X.prog X.w X.K X.mg X.base k x sp) (hr : Room j X.A) (hk : k ≤ j) (hg : Gl X x) (hx : ∀ σ, PassesAt (L2.CX X.prog X.w) X σ (E σ)) (ha : PA X (e :: es) t)
    (hdb : (x == ("__debug__" : Str)) = false := by decide) (he : starEach (e :: es) X.env = (false, eval e X.env) :: starEach es X.env := by rfl) (hpl : (backTo pos (starEach es X.env)).any (·.1) = false := by rfl) :
    PE X (.Call (.Name x p) (e :: es) [] pos) (tCallS sp E t) := by
  obtain ⟨f, fd, ps, F, hm, kp, b⟩ := c.ex
  exact pe_callS F (hr.mono hk) hg hm kp b hx ha hdb he hpl
end
section
variable {P : Program} {w : World} {K : PySem.W.Frag} {mg : Str → Option Value} {base : Heap}
/-- a def by its body, which may let an exception out -/
theorem calX {x : Str} {st : Stmt} {f : Addr} {fd : FuncData} {N ps : List Str} {k : Nat} {sp : Sp} (F : C8.Def K mg x st f fd) (b : Binds K fd ps []) (S : FnScope N ps (C8.fnScope st)) (len : ∀ vs H Q E, sp vs H Q E → vs.length = ps.length)
    (hbody : ∀ (cdv : Value) (A : Around) (outer : List Env) (s : Shared) (H : Hp) (vs : List V) (Q : VK) (E : XK), Room k (A.deeper (envOfC x (C8.fnScope st) s.heap.objs.size f cdv)) → sp vs H Q E →
      ∃ t, PSs (cxOf (L2.CX P w) P w K mg base N x (C8.fnScope st) f cdv A outer s H E) (C8.fnBody st) t ∧ t { nx := fun _ H' => Q .non H', rt := Q } (L2.start N vs) H) : CalX P w K mg base (k + 1) x sp := by
  refine ⟨f, fd, ps, ?_, F.mgf, F.kp, b⟩
  obtain ⟨oc, od, dV, kV, doc, pm, an, cdv, ct, osl, rfl, lk, hcd⟩ := F.fn.ex
  exact fn_of lk hcd S len fun A outer s H vs Q E hr hsp => hbody cdv A outer s H vs Q E hr hsp
end

/-! ### list.count of flat items -/
section
variable {X : Cx}
theorem count_eqU {x : V} : ∀ {xs : List V} {us : List Value}, Vals xs us → xs.all flatV = true → us.countP (eqU x) = xs.countP fun y => eqV y x
  | _, _, .nil, _ => rfl
  | y :: xs, u :: us, .cons r t, f => by
    rw [List.all_cons, Bool.and_eq_true] at f
    rw [List.countP_cons, List.countP_cons, eqU_of r f.1, count_eqU t f.2]
def rCntV (K : PySem.W.Frag) : V → List V → Hp → VK → Prop := fun x xs H Q => ∃ (p : Addr) (ys : List V) (y : V), x = .ref p ∧ xs = [y] ∧ SqL K H p ys ∧ flatV y = true ∧ ys.all flatV = true ∧ Q (.int ((ys.countP fun z => eqV z y : Nat) : Int)) H
theorem mt_lcountV : MtR X "list.count" (rCntV X.K) := by
  intro pins s σ H x xs v us Q I rx rxs h
  obtain ⟨p, ys, y, rfl, rfl, hs, fy, fys, q⟩ := h
  cases rx
  obtain ⟨u, rfl, ru⟩ := rxs.one
  obtain ⟨its, rv, ⟨⟨cls, dd, data, sl⟩, n, ho, hc, hdn, hd⟩, hlen⟩ := I.list hs
  simp only at hc hd
  subst hc hd
  refine call_meets PySem.F.slot_list_count ⟨_, ho, rfl⟩ PySem.F.entry_list_count (PySem.F.args_list_count_2 _ _)
    (SeqAt.list_countAt p its.toArray n dd sl u (eqU y)) ⟨ho, fun u' hu' => mem_eqAt ru fy rv fys u' (by simpa using hu'), ?_⟩
  have ec : its.toArray.toList.countP (eqU y) = ys.countP fun z => eqV z y := count_eqU rv fys
  refine ⟨.int (ys.countP fun z => eqV z y : Nat), H, I.tok _, ⟨s.toks, ?_⟩, q⟩
  show Value.int ((its.toArray.toList.countP (eqU y) : Nat) : Int) s.toks = Value.int ((ys.countP fun z => eqV z y : Nat) : Int) s.toks
  rw [ec]
end

/-! ### isinstance of a caught error, its class told by the reading -/
def rIsE2 (K : PySem.W.Frag) (cls : Value) (d : Option Addr) (a : Addr) : List V → Hp → VK → Prop := fun xs H Q => ∃ (D : Addr) (c : V) (cv : Value) (b : Bool), cls = .ref D ∧ d = none ∧ ExcC K D ∧ xs = [.ref a, c] ∧ (∀ u, RelV c u → u = cv) ∧ PySem.W.kitOne K (.ref D) cv = some b ∧ Q (.bl b) H
theorem call_isE2 {X : Cx} {a : Addr} {cls : Value} {d : Option Addr} {oe : Obj} {pn : List (Addr × Obj)} (hz : Zc cls d oe) (hf : ∃ vs, oe.data = .fields vs) : CallR (X.suite a ((a, oe) :: pn)) (.builtin "isinstance") (rIsE2 X.K cls d a) := by
  intro pins s σ H xs us Q I r h
  obtain ⟨D, c, cv, b, rfl, rfl, C, e, hcv, hk, q⟩ := h
  exact call_isE C hz hf pins s σ H xs us Q I r ⟨c, cv, b, e, hcv, hk, q⟩

/-- where an exception is, the slots are as many as the names -/
theorem takes_len {X : Cx} {W : WX} (t : Takes X W) : Takes X (fun c d σ H => σ.length = X.N.length → W c d σ H) := fun u s' x => by
  obtain ⟨a, B, sI, pins, σ, H, cls, d, e, I, x1, x2, x3, x4, x5, x6, q⟩ := x
  exact t u s' ⟨a, B, sI, pins, σ, H, cls, d, e, I, x1, x2, x3, x4, x5, x6, q I.len⟩

/-! ### built-ins by name -/
def rLen (K : PySem.W.Frag) : List V → Hp → VK → Prop := fun xs H Q => ∃ p ys, xs = [.ref p] ∧ (SqL K H p ys ∨ SqT K H p ys) ∧ Q (.int ys.length) H
theorem call_len1 {X : Cx} : CallR X (.builtin "len") (rLen X.K) := call_len_seq
def rListOf (K : PySem.W.Frag) : List V → Hp → VK → Prop := fun xs H Q => ∃ p ys, xs = [.ref p] ∧ (SqL K H p ys ∨ SqT K H p ys) ∧ ∀ l, H l = none → Q (.ref l) (upd H l (.lst ys))
theorem call_list1 {X : Cx} : CallR X (.type "list") (rListOf X.K) := call_list_of
def rMax2 : List V → Hp → VK → Prop := fun xs H Q => ∃ i j, xs = [.int i, .int j] ∧ Q (.int (if j > i then j else i)) H
theorem call_max1 {X : Cx} (hc : X.calm = true) : CallR X (.builtin "max") rMax2 := call_max2 hc
def rMin2 : List V → Hp → VK → Prop := fun xs H Q => ∃ i j, xs = [.int i, .int j] ∧ Q (.int (if j < i then j else i)) H
theorem call_min1 {X : Cx} (hc : X.calm = true) : CallR X (.builtin "min") rMin2 := call_min2 hc
def rInt1 : List V → Hp → VK → Prop := fun xs H Q => (∃ i, xs = [.int i] ∧ Q (.int i) H) ∨ ∃ k, xs = [.bl k] ∧ Q (.int (if k then 1 else 0)) H
theorem call_intB {X : Cx} : CallR X (.type "int") rInt1 := call_int1

def rIsN : R2 := fun x y H Q => y = .non ∧ Q (.bl (decide (x = .non))) H
theorem op_isN1 {X : Cx} : OpR X (compareOp .Is) rIsN := op_isN
def rNotN : R2 := fun x y H Q => y = .non ∧ Q (.bl (!decide (x = .non))) H
theorem op_notN1 {X : Cx} : OpR X (compareOp .IsNot) rNotN := op_notN

/-! ### steps -/
section
variable {σ : L2.St} {H : Hp} {Q : VK} {QB : Bool → Hp → Prop} {QA : List V → Hp → Prop} {i : Nat} {v x y : V} {ta tb tc te : TE} {t u : TT} {ts us : TS} {D : Ends} {n m : Int} {K : PySem.W.Frag} {r r' r2 : R2}
theorem g_var (h : σ[i]? = some (some v)) (q : Q v H) : tVar i σ H Q := ⟨v, h, q⟩
theorem g_c (q : Q v H) : tC v σ H Q := q
theorem g_op (h : ta σ H fun x H1 => tb σ H1 fun y H2 => r x y H2 Q) : tOp r ta tb σ H Q := h
theorem g_un {r : V → Hp → VK → Prop} (h : ta σ H fun x H1 => r x H1 Q) : tUn r ta σ H Q := h
theorem g_I0 {g : Int → Int → V} (q : Q (g n m) H) : rI0 g (.int n) (.int m) H Q := ⟨n, m, rfl, rfl, q⟩
theorem g_I {C : Int → Int → Prop} {g : Int → Int → V} (c : C n m) (q : Q (g n m) H) : rI C g (.int n) (.int m) H Q := ⟨n, m, rfl, rfl, c, q⟩
theorem g_U {g : Int → V} (q : Q (g n) H) : rU g (.int n) H Q := ⟨n, rfl, q⟩
theorem g_eqI (q : Q (.bl (decide (n = m))) H) : rEq (.int n) (.int m) H Q := ⟨rfl, by
  have e : decide (V.int n = V.int m) = decide (n = m) := by by_cases h : n = m <;> simp [h]
  rw [e]; exact q⟩
theorem g_neI (q : Q (.bl (!decide (n = m))) H) : rNe (.int n) (.int m) H Q := ⟨rfl, by
  have e : decide (V.int n = V.int m) = decide (n = m) := by by_cases h : n = m <;> simp [h]
  rw [e]; exact q⟩
theorem g_eqS {a b : Str} (q : Q (.bl (decide (a = b))) H) : rEq (.str a) (.str b) H Q := ⟨rfl, by
  have e : decide (V.str a = V.str b) = decide (a = b) := by by_cases h : a = b <;> simp [h]
  rw [e]; exact q⟩
theorem g_neS {a b : Str} (q : Q (.bl (!decide (a = b))) H) : rNe (.str a) (.str b) H Q := ⟨rfl, by
  have e : decide (V.str a = V.str b) = decide (a = b) := by by_cases h : a = b <;> simp [h]
  rw [e]; exact q⟩
theorem g_eqB {a b : Bool} (q : Q (.bl (a == b)) H) : rEq (.bl a) (.bl b) H Q := ⟨rfl, by
  have e : decide (V.bl a = V.bl b) = (a == b) := by cases a <;> cases b <;> rfl
  rw [e]; exact q⟩
theorem g_neB {a b : Bool} (q : Q (.bl (a != b)) H) : rNe (.bl a) (.bl b) H Q := ⟨rfl, by
  have e : (!decide (V.bl a = V.bl b)) = (a != b) := by cases a <;> cases b <;> rfl
  rw [e]; exact q⟩
theorem g_isN (q : Q (.bl (decide (x = .non))) H) : rIsN x .non H Q := ⟨rfl, q⟩
theorem g_notN (q : Q (.bl (!decide (x = .non))) H) : rNotN x .non H Q := ⟨rfl, q⟩
theorem g_test (h : te σ H fun x H' => ∃ k, x = .bl k ∧ QB k H') : tTest te σ H QB := h
theorem g_tB (h : te σ H fun x H' => ∃ k, x = .bl k ∧ QB k H') : tB te σ H QB := h
theorem g_bl {b : Bool} (q : QB b H) : ∃ k, V.bl b = .bl k ∧ QB k H := ⟨b, rfl, q⟩
theorem g_and (h : t σ H fun c H1 => if c = true then u σ H1 QB else QB false H1) : tAnd t u σ H QB := h
theorem g_or (h : t σ H fun c H1 => if c = true then QB true H1 else u σ H1 QB) : tOr t u σ H QB := h
theorem g_not (h : t σ H fun c H1 => QB (!c) H1) : tNot t σ H QB := h
theorem g_andV (h : ta σ H fun x H1 => ∃ c, x = .bl c ∧ if c = true then tb σ H1 Q else Q (.bl false) H1) : tAndV ta tb σ H Q := h
theorem g_orV (h : ta σ H fun x H1 => ∃ c, x = .bl c ∧ if c = true then Q (.bl true) H1 else tb σ H1 Q) : tOrV ta tb σ H Q := h
theorem g_notV (h : ta σ H fun x H1 => ∃ c, x = .bl c ∧ Q (.bl (!c)) H1) : tNotV ta σ H Q := h
theorem g_blI {b : Bool} {p : Bool → Prop} (q : p b) : ∃ k, V.bl b = .bl k ∧ p k := ⟨b, rfl, q⟩
theorem g_if (h : t σ H fun c H1 => if c = true then ta σ H1 Q else tb σ H1 Q) : tIf t ta tb σ H Q := h
theorem g_chain (h : ta σ H fun x H1 => tb σ H1 fun y H2 => r x y H2 fun z H3 => ∃ k, z = .bl k ∧ (if k = true then tc σ H3 fun w' H4 => r' y w' H4 Q else Q (.bl false) H3)) : tChain r r' ta tb tc σ H Q := h
theorem g_chain3 {td : TE} (h : ta σ H fun x H1 => tb σ H1 fun y H2 => r x y H2 fun z H3 => ∃ k, z = .bl k ∧
  (if k = true then tc σ H3 fun w' H4 => r' y w' H4 fun z2 H5 => ∃ k2, z2 = .bl k2 ∧ (if k2 = true then td σ H5 fun w2 H6 => r2 w' w2 H6 Q else Q (.bl false) H5) else Q (.bl false) H3)) : tChain3 r r' r2 ta tb tc td σ H Q := h
theorem g_nil (q : QA [] H) : tNil σ H QA := q
theorem g_cons {tr : TA} (h : ta σ H fun x H1 => tr σ H1 fun xs H2 => QA (x :: xs) H2) : tCons ta tr σ H QA := h
theorem g_tup {tr : TA} (h : tr σ H fun xs H1 => xs.length ≤ sizeLine ∧ ∀ p, H1 p = none → Q (.ref p) (upd H1 p (.tup xs))) : tTup tr σ H Q := h
theorem g_lst {tr : TA} (h : tr σ H fun xs H1 => xs.length ≤ sizeLine ∧ ∀ p, H1 p = none → Q (.ref p) (upd H1 p (.lst xs))) : tLst tr σ H Q := h
theorem g_CB {r : List V → Hp → VK → Prop} {tr : TA} (h : tr σ H fun vs H1 => r vs H1 Q) : tCB r tr σ H Q := h
theorem g_call {sp : Sp} {dvs : List V} {E : XK} {tr : TA} (h : tr σ H fun vs H1 => sp (vs ++ dvs) H1 Q E) : tCall sp dvs E tr σ H Q := h
theorem g_callS {sp : Sp} {E : L2.St → XK} {tr : TA} (h : tr σ H fun vs H1 => sp vs H1 Q (E σ)) : tCallS sp E tr σ H Q := h
theorem g_bm {T : String} {r : V → List V → Hp → VK → Prop} {tr : TA} (h : ta σ H fun x H1 => tyV K T x H1 ∧ tr σ H1 fun xs H2 => r x xs H2 Q) : tBM K T r ta tr σ H Q := h
theorem g_bm0 {T : String} {r : V → List V → Hp → VK → Prop} (h : ta σ H fun x H1 => tyV K T x H1 ∧ r x [] H1 Q) : tBM0 K T r ta σ H Q := h
theorem g_sl {r : V → Option Int → Option Int → Hp → VK → Prop} {tl th : TO} (h : te σ H fun x H1 => tl σ H1 fun l H2 => th σ H2 fun u H3 => r x l u H3 Q) : tSl r te tl th σ H Q := h
theorem g_part {QO : Option Int → Hp → Prop} (h : te σ H fun x H1 => ∃ i, x = .int i ∧ QO (some i) H1) : tPart te σ H QO := h
theorem g_part1 {p : Int → Prop} (h : p n) : ∃ i, V.int n = .int i ∧ p i := ⟨n, rfl, h⟩
theorem g_noPart {QO : Option Int → Hp → Prop} (h : QO none H) : tNoPart σ H QO := h
-- statements
theorem g_seq {a : L2.St → Hp → Prop} {b : VK} {c d : L2.St → Hp → Prop} (h : ts ⟨us ⟨a, b, c, d⟩, b, c, d⟩ σ H) : tSeq ts us ⟨a, b, c, d⟩ σ H := h
theorem g_fit {xs : List V} {R : Addr → Prop} (hl : Nat.ble xs.length 1000 = true) (q : ∀ p, H p = none → R p) : xs.length ≤ sizeLine ∧ ∀ p, H p = none → R p := ⟨Nat.le_trans (Nat.le_of_ble_eq_true hl) (by decide), q⟩
theorem g_next (h : D.nx σ H) : tNext D σ H := h
theorem g_asg {g : TG} (h : te σ H fun x H1 => g x σ H1 D.nx) : tAsg te g D σ H := h
theorem g_name {Qg : L2.St → Hp → Prop} (h : Qg (σ.set i (some v)) H) : gName i v σ H Qg := h
theorem g_sub {to ti : TE} {t : TSet} {Qg : L2.St → Hp → Prop} (h : to σ H fun o H1 => ti σ H1 fun i H2 => t o i v H2 fun H3 => Qg σ H3) : gSub to ti t v σ H Qg := h
theorem g_gnil {Qg : L2.St → Hp → Prop} (h : Qg σ H) : gNil [] σ H Qg := ⟨rfl, h⟩
theorem g_gcons {tg : TG} {ug : TGs} {vs : List V} {Qg : L2.St → Hp → Prop} (h : tg v σ H fun σ' H' => ug vs σ' H' Qg) : gCons tg ug (v :: vs) σ H Qg := ⟨v, vs, rfl, h⟩
theorem g_drop (h : te σ H fun _ H1 => D.nx σ H1) : tDrop te D σ H := h
theorem g_ret (h : te σ H D.rt) : tRet te D σ H := h
theorem g_retN (h : D.rt .non H) : tRetN D σ H := h
theorem g_brk (h : D.bk σ H) : tBreak D σ H := h
theorem g_cont (h : D.ct σ H) : tCont D σ H := h
theorem g_ifS (h : t σ H fun b H1 => if b = true then ts D σ H1 else us D σ H1) : tIfS t ts us D σ H := h
theorem g_nx {a : L2.St → Hp → Prop} {b : VK} {c d : L2.St → Hp → Prop} (h : a σ H) : Ends.nx ⟨a, b, c, d⟩ σ H := h
theorem g_bk {a : L2.St → Hp → Prop} {b : VK} {c d : L2.St → Hp → Prop} (h : c σ H) : Ends.bk ⟨a, b, c, d⟩ σ H := h
theorem g_ct {a : L2.St → Hp → Prop} {b : VK} {c d : L2.St → Hp → Prop} (h : d σ H) : Ends.ct ⟨a, b, c, d⟩ σ H := h
theorem g_rt {a : L2.St → Hp → Prop} {b : VK} {c d : L2.St → Hp → Prop} (h : b v H) : Ends.rt ⟨a, b, c, d⟩ v H := h
theorem g_rng1 {tr : TA} {R : It → Hp → Prop} (h : tr σ H fun vs H1 => ∃ j : Int, vs = [.int j] ∧ -(2 ^ 62) ≤ j ∧ j < 2 ^ 62 ∧ R (Itr 0 j.toNat) H1) : iRng1 tr σ H R := h
theorem g_rng2 {tr : TA} {R : It → Hp → Prop} (h : tr σ H fun vs H1 => ∃ i j : Int, vs = [.int i, .int j] ∧ (-(2 ^ 62) ≤ i ∧ i < 2 ^ 62 ∧ -(2 ^ 62) ≤ j ∧ j < 2 ^ 62) ∧ R (Itr i (j - i).toNat) H1) : iRng2 tr σ H R := h
theorem g_iList {R : It → Hp → Prop} (h : te σ H fun x H1 => ∃ a, x = .ref a ∧ (∃ xs, SqL K H1 a xs) ∧ R (Itl K a) H1) : iList K te σ H R := h
theorem g_iTup {R : It → Hp → Prop} (h : te σ H fun x H1 => ∃ a, x = .ref a ∧ (∃ xs, SqT K H1 a xs) ∧ R (Itt K a) H1) : iTup K te σ H R := h
def ForEnd (g : TG) (tb : TS) (a : L2.St → Hp → Prop) (b : VK) (σ : L2.St) (J : It) (H1 : Hp) : Prop := ∃ W : Nat → Nat → L2.St → Hp → Prop, (∃ m, W 0 m σ H1) ∧ ∀ i m σ H, W i m σ H →
  (J.stop i H ∧ a σ H) ∨ (J.go i H ∧ ∃ N : L2.St → Hp → Prop, (∀ σ' H', N σ' H' → ∃ m', m' < m ∧ W (i + 1) m' σ' H') ∧ ∀ x H', J.yld i H x H' → g x σ H' fun σ2 H2 => tb ⟨N, b, a, N⟩ σ2 H2)
theorem g_for {a : L2.St → Hp → Prop} {b : VK} {c d : L2.St → Hp → Prop} {wi : TI} {g : TG} {tb : TS} (h : wi σ H (ForEnd g tb a b σ)) : tFor wi g tb ⟨a, b, c, d⟩ σ H := h
theorem w_list {a : L2.St → Hp → Prop} {b : VK} {g : TG} {tb : TS} {p : Addr} {xs : List V} (Pv : Nat → L2.St → Hp → Prop) (h0 : Pv 0 σ H) (hl : ∀ i σ H, i ≤ xs.length → Pv i σ H → SqL K H p xs)
    (hs : ∀ i x σ H, xs[i]? = some x → Pv i σ H → g x σ H fun σ2 H2 => tb ⟨Pv (i + 1), b, a, Pv (i + 1)⟩ σ2 H2) (hd : ∀ σ H, Pv xs.length σ H → a σ H) : ∃ q, V.ref p = .ref q ∧ (∃ xs, SqL K H q xs) ∧ ForEnd g tb a b σ (Itl K q) H :=
  ⟨p, rfl, ⟨xs, hl 0 σ H (Nat.zero_le _) h0⟩, for_list (D := ⟨a, b, fun _ _ => False, fun _ _ => False⟩) Pv h0 hl hs hd⟩
theorem w_tup {a : L2.St → Hp → Prop} {b : VK} {g : TG} {tb : TS} {p : Addr} {xs : List V} (Pv : Nat → L2.St → Hp → Prop) (h0 : Pv 0 σ H) (hl : ∀ i σ H, i ≤ xs.length → Pv i σ H → SqT K H p xs)
    (hs : ∀ i x σ H, xs[i]? = some x → Pv i σ H → g x σ H fun σ2 H2 => tb ⟨Pv (i + 1), b, a, Pv (i + 1)⟩ σ2 H2) (hd : ∀ σ H, Pv xs.length σ H → a σ H) : ∃ q, V.ref p = .ref q ∧ (∃ xs, SqT K H q xs) ∧ ForEnd g tb a b σ (Itt K q) H :=
  ⟨p, rfl, ⟨xs, hl 0 σ H (Nat.zero_le _) h0⟩, for_tup (D := ⟨a, b, fun _ _ => False, fun _ _ => False⟩) Pv h0 hl hs hd⟩
/-- range(n) -/
theorem w_range {a : L2.St → Hp → Prop} {b : VK} {g : TG} {tb : TS} {n : Int} (h1 : -(2 ^ 62) ≤ n) (h2 : n < 2 ^ 62) (Pv : Nat → L2.St → Hp → Prop) (h0 : Pv 0 σ H)
    (hs : ∀ i σ H, i < n.toNat → Pv i σ H → g (.int i) σ H fun σ2 H2 => tb ⟨Pv (i + 1), b, a, Pv (i + 1)⟩ σ2 H2) (hd : ∀ σ H, Pv n.toNat σ H → a σ H) :
    ∃ j : Int, [V.int n] = [.int j] ∧ -(2 ^ 62) ≤ j ∧ j < 2 ^ 62 ∧ ForEnd g tb a b σ (Itr 0 j.toNat) H :=
  ⟨n, rfl, h1, h2, for_range (D := ⟨a, b, fun _ _ => False, fun _ _ => False⟩) Pv h0 (fun i σ H hi p => by have q := hs i σ H hi p; rw [Int.zero_add]; exact q) hd⟩
theorem w_while {a : L2.St → Hp → Prop} {b : VK} {c d : L2.St → Hp → Prop} {tc : TT} {tb : TS} (Pv : L2.St → Hp → Prop) (μ : L2.St → Hp → Nat) (h0 : Pv σ H)
    (hs : ∀ σ H, Pv σ H → tc σ H fun b' H1 => if b' = true then tb ⟨fun σ' H' => Pv σ' H' ∧ μ σ' H' < μ σ H, b, a, fun σ' H' => Pv σ' H' ∧ μ σ' H' < μ σ H⟩ σ H1 else a σ H1)
    (mono : ∀ σ H Q Q', (∀ b H1, Q b H1 → Q' b H1) → tc σ H Q → tc σ H Q') : tWhile tc tb ⟨a, b, c, d⟩ σ H := while_by Pv μ h0 hs mono
theorem g_itT {b : Bool} {A B : Prop} (h : b = true) (q : A) : if b = true then A else B := by rw [h]; exact iteT q
theorem g_itF {b : Bool} {A B : Prop} (h : b = false) (q : B) : if b = true then A else B := by rw [h]; exact iteF q
theorem g_ite {c : Prop} [Decidable c] {A B : Prop} (h1 : c → A) (h2 : ¬ c → B) : if decide c = true then A else B := by
  by_cases h : c
  · rw [decide_eq_true h]; exact iteT (h1 h)
  · rw [decide_eq_false h]; exact iteF (h2 h)
theorem g_iteN {c : Prop} [Decidable c] {A B : Prop} (h1 : ¬ c → A) (h2 : c → B) : if (!decide c) = true then A else B := by
  by_cases h : c
  · rw [decide_eq_true h]; exact iteF (h2 h)
  · rw [decide_eq_false h]; exact iteT (h1 h)
theorem g_len {p : Addr} {xs : List V} (h : SqL K H p xs ∨ SqT K H p xs) (q : Q (.int xs.length) H) : rLen K [.ref p] H Q := ⟨p, xs, rfl, h, q⟩
theorem g_ixL {p : Addr} {xs : List V} (h : SqL K H p xs) (ha : atI xs n = some v) (q : Q v H) : rIxL K (.ref p) (.int n) H Q := ⟨p, xs, n, v, rfl, rfl, h, ha, q⟩
theorem g_ixT {p : Addr} {xs : List V} (h : SqT K H p xs) (ha : atI xs n = some v) (q : Q v H) : rIxT K (.ref p) (.int n) H Q := ⟨p, xs, n, v, rfl, rfl, h, ha, q⟩
theorem g_setL {p : Addr} {xs : List V} {j : Nat} {q : Hp → Prop} (h : H p = some (.lst xs)) (hj : ixN xs.length n = some j) (k : q (upd H p (.lst (xs.set j v)))) : rSetL (.ref p) (.int n) v H q := ⟨p, xs, n, j, rfl, rfl, h, hj, k⟩
theorem mulW_small {i j : Int} (h1 : 0 ≤ i) (h2 : i < 2147483648) (h3 : 0 ≤ j) (h4 : j < 2147483648) : CMulW i j := wide_mul (a := 31) (b := 31) (by show _ < 2147483648; omega) (by show _ < 2147483648; omega) (by decide) (by decide) (by decide)
theorem divW_small {i j : Int} (h1 : 0 < j) (h2 : j < 10 ^ 38) : CDivW i j := wide_div (b := 127) h1 (by show _ < (2 : Nat) ^ 127; omega) (by decide) (by decide)
theorem g_append {p : Addr} {xs : List V} (h : H p = some (.lst xs)) (hl : xs.length < 100000) (q : Q .non (upd H p (.lst (xs ++ [v])))) : rAppend (.ref p) [v] H Q := ⟨p, xs, v, rfl, rfl, h, Nat.lt_of_lt_of_le hl (by decide), q⟩
theorem g_tyL {p : Addr} {xs : List V} {R : Prop} (h : H p = some (.lst xs)) (q : R) : tyV K "list" (.ref p) H ∧ R := ⟨.inl ⟨rfl, _, SqL.of h⟩, q⟩
theorem g_listOf {p : Addr} {xs : List V} (h : SqL K H p xs) (q : ∀ l, H l = none → Q (.ref l) (upd H l (.lst xs))) : rListOf K [.ref p] H Q := ⟨p, xs, rfl, .inl h, q⟩
theorem g_listOfT {p : Addr} {xs : List V} (h : SqT K H p xs) (q : ∀ l, H l = none → Q (.ref l) (upd H l (.lst xs))) : rListOf K [.ref p] H Q := ⟨p, xs, rfl, .inr h, q⟩
theorem g_int1B {b : Bool} (q : Q (.int (if b then 1 else 0)) H) : rInt1 [.bl b] H Q := .inr ⟨b, rfl, q⟩
theorem g_gtup {p : Addr} {xs : List V} {k : Nat} {tg : TGs} {Qg : L2.St → Hp → Prop} (h : SqT K H p xs) (hl : xs.length = k) (q : tg xs σ H Qg) : gTup K k tg (.ref p) σ H Qg := ⟨p, xs, rfl, h, hl, q⟩
theorem g_isi {c : V} {tv uv : Value} {b : Bool} (h1 : ClsV c uv) (h2 : TyX K H x tv) (h3 : PySem.W.kitOne K tv uv = some b) (q : Q (.bl b) H) : rIsi K [x, c] H Q := ⟨x, c, tv, uv, b, rfl, h1, h2, h3, q⟩
theorem g_max2 (q : Q (.int (if m > n then m else n)) H) : rMax2 [.int n, .int m] H Q := ⟨n, m, rfl, q⟩
theorem g_min2 (q : Q (.int (if m < n then m else n)) H) : rMin2 [.int n, .int m] H Q := ⟨n, m, rfl, q⟩
end

/-! ### heaps in which the list at S changes -/
def Frm (S : Addr) (H H' : Hp) : Prop := ∀ b o, b ≠ S → H b = some o → H' b = some o
theorem Frm.refl (S : Addr) (H : Hp) : Frm S H H := fun _ _ _ h => h
theorem Frm.trans {S : Addr} {H H1 H2 : Hp} (a : Frm S H H1) (b : Frm S H1 H2) : Frm S H H2 := fun c o n h => b c o n (a c o n h)
theorem Frm.of {S : Addr} {H H' : Hp} (e : Same H H') : Frm S H H' := fun b o _ h => e b o h
theorem Frm.set {S : Addr} {H : Hp} {o : HO} : Frm S H (upd H S o) := fun b u n h => by rw [upd_ne n]; exact h
theorem same_new {H : Hp} {p : Addr} {o : HO} (h : H p = none) : Same H (upd H p o) := fun b u e => by rw [upd_ne (ne_of_none e h)]; exact e
/-- what may be read at a, whatever becomes of S -/
def ScL (K : PySem.W.Frag) (S : Addr) (H : Hp) (a : Addr) (xs : List V) : Prop := (a ≠ S ∧ Rd H a (.lst xs)) ∨ ∀ H', SqL K H' a xs
theorem ScL.sq {K : PySem.W.Frag} {S : Addr} {H : Hp} {a : Addr} {xs : List V} (h : ScL K S H a xs) : SqL K H a xs := by
  rcases h with ⟨_, h⟩ | h
  · exact .inl h
  · exact h H
theorem ScL.frm {K : PySem.W.Frag} {S : Addr} {H H' : Hp} {a : Addr} {xs : List V} (h : ScL K S H a xs) (f : Frm S H H') : ScL K S H' a xs := by
  rcases h with ⟨n, h⟩ | h
  · refine .inl ⟨n, ?_⟩
    rcases h with h | ⟨o, h⟩
    · exact .inl (f _ _ n h)
    · exact .inr ⟨o, f _ _ n h⟩
  · exact .inr h
theorem ScL.of {K : PySem.W.Frag} {S : Addr} {H H' : Hp} {a : Addr} {xs : List V} (h : SqL K H a xs) (e : Same H H') (n : H S = none) : ScL K S H' a xs := by
  rcases h with h | h
  · rcases h with h | ⟨o, h⟩
    · exact .inl ⟨ne_of_none h n, .inl (e _ _ h)⟩
    · exact .inl ⟨ne_of_none h n, .inr ⟨o, e _ _ h⟩⟩
  · exact .inr fun H' => .inr h
/-- the drawing's state at S; what B tracks stands as it stood -/
def Dst (K : PySem.W.Frag) (B H : Hp) (S : Addr) : Prop := ∃ (sc : Addr) (ns : List Int) (c m r : Int), H S = some (.lst [.ref sc, .int c, .int m, .int r]) ∧ ScL K S B sc (ns.map V.int) ∧ Frm S B H ∧ ns.length ≤ 63 ∧ 0 ≤ c ∧ 0 ≤ m ∧ m < 2147483647
theorem Dst.same {K : PySem.W.Frag} {B H H' : Hp} {S : Addr} (d : Dst K B H S) (e : Same H H') : Dst K B H' S := by
  obtain ⟨sc, ns, c, m, r, h1, h2, h3, h4⟩ := d
  exact ⟨sc, ns, c, m, r, e _ _ h1, h2, h3.trans (.of e), h4⟩
theorem Dst.has {K : PySem.W.Frag} {B H : Hp} {S : Addr} (d : Dst K B H S) : H S ≠ none := by
  obtain ⟨sc, ns, c, m, r, h1, _⟩ := d
  rw [h1]; exact fun z => nomatch z
theorem Dst.ne {K : PySem.W.Frag} {B H : Hp} {S p : Addr} (d : Dst K B H S) (h : H p = none) : p ≠ S := fun e => d.has (e ▸ h)
theorem Dst.fresh {K : PySem.W.Frag} {B H : Hp} {S p : Addr} (d : Dst K B H S) (h : H p = none) : B p = none := by
  have n := d.ne h
  obtain ⟨sc, ns, c, m, r, h1, h2, h3, h4⟩ := d
  cases e : B p with
  | none => rfl
  | some o => rw [h3 p o n e] at h; cases h
/-- a thing that B does not know changes -/
theorem Dst.mut {K : PySem.W.Frag} {B H : Hp} {S p : Addr} {o : HO} (d : Dst K B H S) (n : p ≠ S) (h : B p = none) : Dst K B (upd H p o) S := by
  obtain ⟨sc, ns, c, m, r, h1, h2, h3, h4⟩ := d
  refine ⟨sc, ns, c, m, r, ?_, h2, fun b u hb e => ?_, h4⟩
  · rw [upd_ne n.symm]; exact h1
  · rw [upd_ne (ne_of_none e h)]; exact h3 b u hb e
theorem Frm.mut {S p : Addr} {H H' : Hp} {o : HO} (f : Frm S H H') (h : H p = none) : Frm S H (upd H' p o) := fun b u n e => by
  rw [upd_ne (ne_of_none e h)]; exact f b u n e
theorem Frm.new {S p : Addr} {H : Hp} {o : HO} (h : H p = none) : Frm S H (upd H p o) := .of (same_new h)
theorem Frm.back {S p : Addr} {H H' : Hp} (f : Frm S H H') (n : p ≠ S) (h : H' p = none) : H p = none := by
  cases e : H p with
  | none => rfl
  | some o => rw [f p o n e] at h; cases h
theorem Same.back {H H' : Hp} {p : Addr} (f : Same H H') (h : H' p = none) : H p = none := by
  cases e : H p with
  | none => rfl
  | some o => rw [f p o e] at h; cases h
theorem Same.mut {H H' : Hp} {p : Addr} {o : HO} (f : Same H H') (h : H p = none) : Same H (upd H' p o) := fun b u e => by
  rw [upd_ne (ne_of_none e h)]; exact f b u e
theorem pow_small {i j : Int} (h0 : 0 ≤ j) (h1 : j ≤ 1000) (h2 : i.natAbs < 2 ^ 32) : CPow i j := ⟨h0, by omega, Nat.lt_trans h2 (by decide)⟩
theorem atI_mem {xs : List V} {z : Int} (h0 : 0 ≤ z) (h1 : z < xs.length) : ∃ x, x ∈ xs ∧ atI xs z = some x := by
  have hl : z.toNat < xs.length := by omega
  exact ⟨xs[z.toNat], List.getElem_mem hl, at_of (j := z.toNat) (by omega) (List.getElem?_eq_getElem hl)⟩
theorem map_at {ns : List Int} {i : Nat} {x : V} (h : (ns.map V.int)[i]? = some x) : ∃ n, ns[i]? = some n ∧ x = V.int n := by
  rw [List.getElem?_map] at h
  cases hq : ns[i]? with
  | none => rw [hq] at h; cases h
  | some z => rw [hq] at h; exact ⟨z, rfl, (Option.some.inj h).symm⟩
/-- what stands beside S -/
def Live (S : Addr) (H : Hp) (L : List (Addr × HO)) : Prop := ∀ p ∈ L, p.1 ≠ S ∧ H p.1 = some p.2
theorem Live.nil {S : Addr} {H : Hp} : Live S H [] := fun _ h => (List.not_mem_nil h).elim
theorem Live.frm {S : Addr} {H H' : Hp} {L : List (Addr × HO)} (l : Live S H L) (f : Frm S H H') : Live S H' L := fun p h => ⟨(l p h).1, f _ _ (l p h).1 (l p h).2⟩
theorem Live.cons {S : Addr} {H : Hp} {L : List (Addr × HO)} {a : Addr} {o : HO} (l : Live S H L) (n : a ≠ S) (h : H a = some o) : Live S H ((a, o) :: L) := fun p hp => by
  rcases List.mem_cons.mp hp with e | e
  · subst e; exact ⟨n, h⟩
  · exact l p e
theorem Live.get {S : Addr} {H : Hp} {L : List (Addr × HO)} (l : Live S H L) (i : Nat) {a : Addr} {o : HO} (h : L[i]? = some (a, o)) : H a = some o := (l _ (List.mem_of_getElem? h)).2
theorem Live.ne {S : Addr} {H : Hp} {L : List (Addr × HO)} (l : Live S H L) (i : Nat) {a : Addr} {o : HO} (h : L[i]? = some (a, o)) : a ≠ S := (l _ (List.mem_of_getElem? h)).1
/-- a new object is laid -/
theorem Live.new {S : Addr} {H : Hp} {L : List (Addr × HO)} {p : Addr} {o : HO} (l : Live S H L) (hp : H p = none) (hS : H S ≠ none) : Live S (upd H p o) ((p, o) :: L) :=
  (l.frm (.of (same_new hp))).cons (fun e => hS (e ▸ hp)) upd_same

/-! ### == of data -/
section
variable {K : PySem.W.Frag} {H : Hp} {Q : VK}
theorem dpAll_ints : ∀ ns : List Int, DpAll K H (ns.map V.int) (ns.map PyData.int)
  | [] => .nil
  | n :: ns => .cons (.int n) (dpAll_ints ns)
theorem dp_ints {a : Addr} {ns : List Int} (h : SqL K H a (ns.map V.int)) : Dp K H (.ref a) (.list (ns.map PyData.int)) := .lst h (dpAll_ints ns)
theorem eqvAll_ints : ∀ ns ms : List Int, PyData.eqvAll (ns.map PyData.int) (ms.map PyData.int) = decide (ns = ms)
  | [], [] => by simp [PyData.eqvAll]
  | [], _ :: _ => by simp [PyData.eqvAll]
  | _ :: _, [] => by simp [PyData.eqvAll]
  | n :: ns, m :: ms => by
    have ih := eqvAll_ints ns ms
    simp only [List.map_cons, PyData.eqvAll, ih, PyData.eqv]
    by_cases h1 : n = m <;> by_cases h2 : ns = ms <;> simp [h1, h2]
theorem eqv_ints (ns ms : List Int) : PyData.eqv (.list (ns.map PyData.int)) (.list (ms.map PyData.int)) = decide (ns = ms) := by
  rw [PyData.eqv]; exact eqvAll_ints ns ms
theorem g_eqLI {a b : Addr} {ns ms : List Int} (h1 : SqL K H a (ns.map V.int)) (h2 : SqL K H b (ms.map V.int)) (q : Q (.bl (decide (ns = ms))) H) : rEqD K (.ref a) (.ref b) H Q :=
  ⟨_, _, dp_ints h1, dp_ints h2, PySem.W.ke_shaped_ints ns, PySem.W.ke_shaped_ints ms, by rw [eqv_ints]; exact q⟩
theorem g_neLI {a b : Addr} {ns ms : List Int} (h1 : SqL K H a (ns.map V.int)) (h2 : SqL K H b (ms.map V.int)) (q : Q (.bl (!decide (ns = ms))) H) : rNeD K (.ref a) (.ref b) H Q :=
  ⟨_, _, dp_ints h1, dp_ints h2, PySem.W.ke_shaped_ints ns, PySem.W.ke_shaped_ints ms, by rw [eqv_ints]; exact q⟩
end
section
variable {σ : L2.St} {H : Hp}
/-- a while, by an invariant that bears its measure -/
theorem w_loop {a : L2.St → Hp → Prop} {b : VK} {c d : L2.St → Hp → Prop} {tc : TT} {tb : TS} (Pv : Nat → L2.St → Hp → Prop) (m0 : Nat) (h0 : Pv m0 σ H)
    (hs : ∀ m σ H, Pv m σ H → tc σ H fun b' H1 => if b' = true then ∃ N : L2.St → Hp → Prop, (∀ σ' H', N σ' H' → ∃ m', m' < m ∧ Pv m' σ' H') ∧ tb ⟨N, b, a, N⟩ σ H1 else a σ H1) : tWhile tc tb ⟨a, b, c, d⟩ σ H := ⟨Pv, ⟨m0, h0⟩, hs⟩
end
section
variable {K : PySem.W.Frag} {H : Hp} {Q : VK}
theorem g_slL {a : Addr} {xs : List V} {lo hi : Option Int} (h : SqL K H a xs) (q : ∀ p, H p = none → Q (.ref p) (upd H p (.lst (cutV xs lo hi)))) : rSlL K (.ref a) lo hi H Q := ⟨a, xs, rfl, h, q⟩
theorem cut1 (xs : List V) : cutV xs (some 1) none = xs.drop 1 := by
  unfold cutV
  rw [show (some (1 : Int)) = some ((1 : Nat) : Int) from rfl, HT.sIx_nat, HT.sIx_none]
  cases xs with
  | nil => rfl
  | cons x xs =>
    have e : min 1 (x :: xs).length = 1 := by simp
    rw [e]
    show List.take ((x :: xs).length - 1) xs = xs
    simp
end
theorem tup_same {K : PySem.W.Frag} {H H' : Hp} {a : Addr} {xs : List V} (e : Same H H') (h : SqT K H a xs) : SqT K H' a xs := by
  rcases h with (h | ⟨o, h⟩) | h
  · exact .inl (.inl (e _ _ h))
  · exact .inl (.inr ⟨o, e _ _ h⟩)
  · exact .inr h

/-! ### data: kinds, and as they stand later -/
section
variable {K : PySem.W.Frag} {H H' : Hp} {Q : VK} {σ : L2.St}
theorem ty_list {a : Addr} {xs : List V} (h : SqL K H a xs) : TyX K H (.ref a) (.type "list") := by
  rcases h with (h | ⟨o, h⟩) | h
  · exact .base (.lst h)
  · exact .base (.frz h)
  · obtain ⟨o, items, n, h1, h2, _⟩ := h
    exact .kList h1 h2
theorem ty_tup {a : Addr} {xs : List V} (h : SqT K H a xs) : TyX K H (.ref a) (.type "tuple") := by
  rcases h with (h | ⟨o, h⟩) | h
  · exact .base (.tup h)
  · exact .fTuple h
  · obtain ⟨o, items, n, h1, h2, _⟩ := h
    exact .kTuple h1 h2
theorem list_same {a : Addr} {xs : List V} (e : Same H H') (h : SqL K H a xs) : SqL K H' a xs := e.seq h
mutual
theorem Dp_same (e : Same H H') : ∀ (d : PyData) (v : V), Dp K H v d → Dp K H' v d
  | .none, _, h => by cases h; exact .non
  | .bool b, _, h => by cases h; exact .bl b
  | .int i, _, h => by cases h; exact .int i
  | .str x, _, h => by cases h; exact .str x
  | .list ds, _, h => by
    cases h with
    | lst hs ha => exact .lst (list_same e hs) (DpAll_same e ds _ ha)
  | .tuple ds, _, h => by
    cases h with
    | tup hs ha => exact .tup (tup_same e hs) (DpAll_same e ds _ ha)
  | .dict _, _, h => by cases h
theorem DpAll_same (e : Same H H') : ∀ (ds : List PyData) (vs : List V), DpAll K H vs ds → DpAll K H' vs ds
  | [], _, h => by cases h; exact .nil
  | d :: ds, _, h => by
    cases h with
    | cons h1 h2 => exact .cons (Dp_same e d _ h1) (DpAll_same e ds _ h2)
end
theorem DpAll.len : ∀ {vs : List V} {ds : List PyData}, DpAll K H vs ds → vs.length = ds.length
  | [], [], _ => rfl
  | _ :: _, _ :: _, .cons _ h => by rw [List.length_cons, List.length_cons, DpAll.len h]
theorem DpAll.at : ∀ {vs : List V} {ds : List PyData} {i : Nat} {d : PyData}, DpAll K H vs ds → ds[i]? = some d → ∃ v, vs[i]? = some v ∧ Dp K H v d
  | _, _, 0, d, .cons h _, e => by cases e; exact ⟨_, rfl, h⟩
  | _, _, i + 1, d, .cons _ h, e => DpAll.at (i := i) h e
/-- small data of the four flat kinds, lists and tuples, at most so deep -/
inductive OkD : Nat → PyData → Prop
  | non {n : Nat} : OkD n .none
  | bl {n : Nat} (b : Bool) : OkD n (.bool b)
  | int {n : Nat} (i : Int) : OkD n (.int i)
  | str {n : Nat} (x : Str) : OkD n (.str x)
  | lst {n : Nat} {ds : List PyData} : ds.length ≤ 100000 → (∀ d ∈ ds, OkD n d) → OkD (n + 1) (.list ds)
  | tup {n : Nat} {ds : List PyData} : ds.length ≤ 100000 → (∀ d ∈ ds, OkD n d) → OkD (n + 1) (.tuple ds)
theorem g_isiT {x : V} {tp : Addr} {cs : List V} {t : Value} {us : List Value} {b : Bool} (hT : H tp = some (.tup cs)) (hc : Paired ClsV cs us) (ty : TyX K H x t) (hk : PySem.W.kitAny K t us = some b) (q : Q (.bl b) H) : rIsiT K [x, .ref tp] H Q :=
  ⟨x, tp, cs, t, us, b, rfl, hT, hc, ty, hk, q⟩
/-- t is one of two built-in types, or none of them -/
theorem kit2 {t a b : String} {r1 r2 : Bool} (h1 : kitB t a = some r1) (h2 : kitB t b = some r2) : PySem.W.kitAny K (.type t) [.type a, .type b] = some (r1 || r2) := by
  refine kitAny_cons (kit_ty h1) (fun e => ?_) (fun e => by rw [e]; rfl)
  rw [e]
  exact kitAny_cons (kit_ty h2) (fun e2 => by rw [e2]; rfl) (fun e2 => by rw [e2]; rfl)
theorem g_isiB {x c : V} {tn cn : String} {b : Bool} (h1 : ClsV c (.type cn)) (h2 : TyX K H x (.type tn)) (h3 : kitB tn cn = some b) (q : Q (.bl b) H) : rIsi K [x, c] H Q := ⟨x, c, .type tn, .type cn, b, rfl, h1, h2, kit_ty h3, q⟩
def LcEnd (g : TG) (tt : TT) (te : TE) (vs : List Nat) (σ : L2.St) (Q : VK) (J : It) (H1 : Hp) : Prop := ∀ D, H1 D = none → ∃ W : Nat → Nat → Hp → Prop, (∃ m, W 0 m (upd H1 D (.lst []))) ∧ ∀ i m H, W i m H →
  (J.stop i H ∧ Q (.ref D) H) ∨ (J.go i H ∧ ∃ Nx : Hp → Prop, (∀ H', Nx H' → ∃ m', m' < m ∧ W (i + 1) m' H') ∧ ∀ x H', J.yld i H x H' → g x (wipe σ vs) H' fun σ2 H2 => wipe σ2 vs = wipe σ vs ∧ tt σ2 H2 fun b H3 =>
    if b = true then te σ2 H3 fun y H4 => ∃ acc, H4 D = some (.lst acc) ∧ acc.length < sizeLine ∧ Nx (upd H4 D (.lst (acc ++ [y]))) else Nx H3)
theorem g_lc {wi : TI} {g : TG} {tt : TT} {te : TE} {vs : List Nat} (h : wi σ H (LcEnd g tt te vs σ Q)) : tLc wi g tt te vs σ H Q := h
theorem g_yes {QB : Bool → Hp → Prop} (q : QB true H) : tYes σ H QB := q
theorem w_lcRange {g : TG} {tt : TT} {te : TE} {vs : List Nat} {n : Int} (h1 : -(2 ^ 62) ≤ n) (h2 : n < 2 ^ 62) (Pv : Addr → Nat → Hp → Prop) (h0 : ∀ D, H D = none → Pv D 0 (upd H D (.lst [])))
    (hs : ∀ D i H', H D = none → i < n.toNat → Pv D i H' → g (.int i) (wipe σ vs) H' fun σ2 H2 => wipe σ2 vs = wipe σ vs ∧ tt σ2 H2 fun b H3 =>
      if b = true then te σ2 H3 fun y H4 => ∃ acc, H4 D = some (.lst acc) ∧ acc.length < sizeLine ∧ Pv D (i + 1) (upd H4 D (.lst (acc ++ [y]))) else Pv D (i + 1) H3) (hd : ∀ D H', H D = none → Pv D n.toNat H' → Q (.ref D) H') :
    ∃ j : Int, [V.int n] = [.int j] ∧ -(2 ^ 62) ≤ j ∧ j < 2 ^ 62 ∧ LcEnd g tt te vs σ Q (Itr 0 j.toNat) H :=
  ⟨n, rfl, h1, h2, fun D hD => lc_range (Pv D) (h0 D hD) (fun i H' hi p => by have q := hs D i H' hD hi p; rw [Int.zero_add]; exact q) (fun H' p => hd D H' hD p)⟩
end

/-! ### tables of code objects beside the drawing -/
/-- H without its tables -/
def noT (H : Hp) : Hp := fun b => match H b with
  | some (.tbl _) => none
  | o => o
theorem noT_some {H : Hp} {b : Addr} {o : HO} (h : noT H b = some o) : H b = some o ∧ ∀ ps, o ≠ .tbl ps := by
  unfold noT at h
  split at h
  · cases h
  · rename_i n
    exact ⟨h, fun ps e => n ps (by rw [h, e])⟩
theorem noT_of {H : Hp} {b : Addr} {o : HO} (h : H b = some o) (n : ∀ ps, o ≠ .tbl ps) : noT H b = some o := by
  unfold noT
  split
  · rename_i ps e
    rw [h] at e
    exact absurd (Option.some.inj e) (n ps)
  · exact h
theorem noT_same (H : Hp) : Same (noT H) H := fun _ _ h => (noT_some h).1
theorem noT_list {K : PySem.W.Frag} {H : Hp} {a : Addr} {xs : List V} (h : SqL K H a xs) : SqL K (noT H) a xs := by
  rcases h with (h | ⟨o, h⟩) | h
  · exact .inl (.inl (noT_of h (fun _ z => nomatch z)))
  · exact .inl (.inr ⟨o, noT_of h (fun _ z => nomatch z)⟩)
  · exact .inr h
/-- all but S and the tables stays -/
theorem Dst.ext {K : PySem.W.Frag} {H0 H H' : Hp} {S : Addr} (d : Dst K (noT H0) H S) (e : LamX.ExtN H H') : Dst K (noT H0) H' S := by
  obtain ⟨sc, ns, c, m, r, h1, h2, h3, h4⟩ := d
  exact ⟨sc, ns, c, m, r, e _ _ h1 (fun _ z => nomatch z), h2, fun b o n h => e _ _ (h3 b o n h) (noT_some h).2, h4⟩
theorem tabs_frm {K : PySem.W.Frag} {B H H' : Hp} {S : Addr} {T : List (Addr × Str)} (t : LamX.Tabs T H) (d : Dst K B H S) (f : Frm S H H') : LamX.Tabs T H' := fun p hp => by
  obtain ⟨sc, ns, c, m, r, hS, _⟩ := d
  obtain ⟨ps, h1, h2, h3⟩ := t p hp
  refine ⟨ps, f _ _ (ne_of h1 hS (fun z => nomatch z)) h1, h2, fun pos cv hc => ?_⟩
  obtain ⟨c', e1, e2⟩ := h3 pos cv hc
  exact ⟨c', e1, f _ _ (ne_of e2 hS (fun z => nomatch z)) e2⟩
theorem tabs_same {H H' : Hp} {T : List (Addr × Str)} (t : LamX.Tabs T H) (e : Same H H') : LamX.Tabs T H' := t.ext e
section
variable {P : Program} {w : World} {K : PySem.W.Frag} {mg : Str → Option Value} {base : Heap}
/-- a def whose code object is told -/
theorem fn_code {k : Nat} {f : Addr} {name qual : Str} {params : Arguments} {body : List Stmt} {scope : Scope} {dV kV doc pm cdv ct oc : Value} {an od : Option Addr} {osl : Array (Option Value)} {N ps : List Str} {sp : Sp}
    (lk : K.lookup f = some ⟨oc, od, .func (PySem.W.fnOf name qual params body scope dV kV doc pm an cdv ct), osl⟩) (hcd : PySem.W.codeIn K cdv qual = true) (S : FnScope N ps scope) (len : ∀ vs H Q E, sp vs H Q E → vs.length = ps.length)
    (hbody : ∀ (A : Around) (outer : List Env) (s : Shared) (H : Hp) (vs : List V) (Q : VK) (E : XK), Room k (A.deeper (envOfC qual scope s.heap.objs.size f cdv)) → sp vs H Q E →
      ∃ t, PSs (cxOf C8.CX0 P w K mg base N qual scope f cdv A outer s H E).nox body t ∧ t { nx := fun _ H' => Q .non H', rt := Q } (L2.start N vs) H) :
    FnOk P w K mg base C8.CX0 (k + 1) f (PySem.W.fnOf name qual params body scope dV kV doc pm an cdv ct) ps sp :=
  fn_of lk hcd S len fun A outer s H vs Q E hr hsp => (hbody A outer s H vs Q E hr hsp).elim fun t h => ⟨t, h.1.nox, h.2⟩
end
theorem g_lam {T : List (Addr × Str)} {TT : (XK → Hp → VK → Prop) → Hp → VK → Prop} {t : XK → TE} {σ : L2.St} {H : Hp} {Q : VK} (h : LamX.Tabs T H) (q : ∀ H1, LamX.ExtN H H1 → LamX.Tabs T H1 → TT (fun E H' Q' => t E σ H' Q') H1 Q) : LamX.tLam T TT t σ H Q := ⟨h, q⟩
end Wd
local macro_rules | `(tactic| walk_at "go") => `(tactic| repeat (first
  | with_reducible refine Wd.g_seq ?_
  | with_reducible refine Wd.g_nx ?_
  | with_reducible refine Wd.g_asg ?_
  | ((with_reducible refine' Wd.g_var ?h1 ?_); (case h1 => exact rfl))
  | with_reducible refine Wd.g_c ?_
  | with_reducible refine Wd.g_op ?_
  | with_reducible refine Wd.g_un ?_
  | with_reducible refine Wd.g_I0 ?_
  | with_reducible refine Wd.g_U ?_
  | with_reducible refine Wd.g_eqI ?_
  | with_reducible refine Wd.g_neI ?_
  | with_reducible refine Wd.g_eqS ?_
  | with_reducible refine Wd.g_neS ?_
  | with_reducible refine Wd.g_eqB ?_
  | with_reducible refine Wd.g_neB ?_
  | with_reducible refine Wd.g_isN ?_
  | with_reducible refine Wd.g_notN ?_
  | with_reducible refine Wd.g_lc ?_
  | with_reducible refine Wd.g_yes ?_
  | with_reducible refine Wd.g_test ?_
  | with_reducible refine Wd.g_tB ?_
  | with_reducible refine Wd.g_bl ?_
  | with_reducible refine Wd.g_blI ?_
  | with_reducible refine Wd.g_and ?_
  | with_reducible refine Wd.g_or ?_
  | with_reducible refine Wd.g_not ?_
  | with_reducible refine Wd.g_andV ?_
  | with_reducible refine Wd.g_orV ?_
  | with_reducible refine Wd.g_notV ?_
  | with_reducible refine Wd.g_if ?_
  | with_reducible refine Wd.g_chain ?_
  | with_reducible refine Wd.g_chain3 ?_
  | with_reducible refine Wd.g_nil ?_
  | with_reducible refine Wd.g_cons ?_
  | with_reducible refine Wd.g_tup ?_
  | with_reducible refine Wd.g_lst ?_
  | with_reducible refine Wd.g_CB ?_
  | with_reducible refine Wd.g_call ?_
  | with_reducible refine Wd.g_callS ?_
  | with_reducible refine Wd.g_bm ?_
  | with_reducible refine Wd.g_bm0 ?_
  | with_reducible refine Wd.g_sl ?_
  | with_reducible refine Wd.g_part ?_
  | with_reducible refine Wd.g_part1 ?_
  | with_reducible refine Wd.g_noPart ?_
  | with_reducible refine Wd.g_next ?_
  | with_reducible refine Wd.g_name ?_
  | with_reducible refine Wd.g_sub ?_
  | with_reducible refine Wd.g_gnil ?_
  | with_reducible refine Wd.g_gcons ?_
  | with_reducible refine Wd.g_drop ?_
  | with_reducible refine Wd.g_ret ?_
  | with_reducible refine Wd.g_retN ?_
  | with_reducible refine Wd.g_brk ?_
  | with_reducible refine Wd.g_cont ?_
  | with_reducible refine Wd.g_ifS ?_
  | with_reducible refine Wd.g_bk ?_
  | with_reducible refine Wd.g_ct ?_
  | with_reducible refine Wd.g_rt ?_
  | with_reducible refine Wd.g_for ?_
  | with_reducible refine Wd.g_rng1 ?_
  | with_reducible refine Wd.g_rng2 ?_
  | with_reducible refine Wd.g_iList ?_
  | with_reducible refine Wd.g_iTup ?_
  | ((with_reducible refine Wd.g_fit ?h1 ?_); (case h1 => exact rfl))
  | with_reducible refine Wd.g_max2 ?_
  | with_reducible refine Wd.g_min2 ?_
  | with_reducible refine Wd.g_int1B ?_
  | with_reducible refine L2.iteT ?_
  | with_reducible refine L2.iteF ?_
  | ((with_reducible refine Wd.g_itT ?h1 ?_); (case h1 => exact rfl))
  | ((with_reducible refine Wd.g_itF ?h1 ?_); (case h1 => exact rfl))))
/-! Plans as data; tuples that are repeated, made of lists; lists within comprehensions. -/
namespace Wd
open PySem PySem.Spec PyProof.Rows L2

/-! ### t * k, k from 0 on -/
theorem mul_once (l : Addr) (items : Array Value) (n : Nat) (dd : Option Addr) (sl : Array (Option Value)) (u : Tok) :
    Meets (Builtin.«tuple.__mul__» ⟨[.ref l, .int 1 u], []⟩) (fun _ R s => s.heap.get? l = some { cls := .type "tuple", dict := dd, data := .seq items n, slots := sl } ∧ R (.ok (.ret (Value.ref l))) s) :=
  .of_wp fun prog w A R s h => by
    obtain ⟨hp, g, d, tk, os⟩ := s
    obtain ⟨hl, q⟩ := h
    have one := AutoSeq1.idx_int
    wp_walk using AutoSeq1.wpAny_loadPart' hl
    exact ⟨_, rfl, q⟩
theorem mul_none (l : Addr) (items : Array Value) (n : Nat) (dd : Option Addr) (sl : Array (Option Value)) (u : Tok) (h2 : items.isEmpty = false) :
    Meets (Builtin.«tuple.__mul__» ⟨[.ref l, .int 0 u], []⟩) (fun _ R s => s.heap.get? l = some { cls := .type "tuple", dict := dd, data := .seq items n, slots := sl } ∧
      R (.ok (.ret (Value.ref s.heap.objs.size))) { s with heap := s.heap.push { cls := Value.type "tuple", data := Data.seq #[] }, toks := s.toks }) :=
  .of_wp fun prog w A R s h => by
    obtain ⟨hp, g, d, tk, os⟩ := s
    obtain ⟨hl, q⟩ := h
    have one := AutoSeq1.idx_int
    wp_walk using AutoSeq1.wpAny_loadPart' hl
    exact ⟨_, rfl, q⟩
def rRepU (K : PySem.W.Frag) : R2 := fun x y H Q => ∃ (l : Addr) (k : Int) (xs : List V), x = .ref l ∧ y = .int k ∧ SqT K H l xs ∧ xs ≠ [] ∧ 0 ≤ k ∧ k ≤ 1000 ∧ xs.length ≤ 1000 ∧ (k = 1 → Q (.ref l) H) ∧
  (k ≠ 1 → ∀ p, H p = none → Q (.ref p) (upd H p (.tup (List.replicate k.toNat xs).flatten)))
section
variable {X : Cx}
theorem op_repU : OpR X (binaryOp .Mult) (rRepU X.K) := by
  intro pins s σ H x y v u Q I rx ry h
  obtain ⟨l, k, xs, rfl, rfl, hT, hne, h0, h1, hz, q1, q2⟩ := h
  by_cases c2 : 2 ≤ k
  · exact op_repT pins s σ H _ _ _ _ Q I rx ry ⟨l, k, xs, rfl, rfl, hT, hne, c2, h1, hz, q2 (by omega)⟩
  · cases rx
    obtain ⟨t, rfl⟩ := ry
    obtain ⟨its, r, ⟨⟨cls, dd, data, sl⟩, ho, hc, n, hd⟩, hs⟩ := I.tuple hT
    simp only at hc hd
    subst hc hd
    have c01 : k = 0 ∨ k = 1 := by omega
    rcases c01 with rfl | rfl
    · have hem : its.toArray.isEmpty = false := by
        cases r with
        | nil => exact absurd rfl hne
        | cons _ _ => rfl
      refine wpAny_binaryOp_repeat_ref (T := "tuple") (U := "int") (by decide) ⟨_, ho, rfl⟩ (fun s' => typeIs_int s' 0 t) noFill_tuple_mul F.fills_int_mul F.slot_int_rmul repeat_tuple F.slot_int_index.lookup (call_meets F.slot_int_rmul (typeIs_int s 0 t) F.entry_int_rmul (F.args_int_rmul_2 _ _)
        (int_rmul_tuple 0 t l its.toArray n dd sl) ⟨ho, rfl, ⟨_, ho, rfl⟩, call_meets F.slot_tuple_mul ⟨_, ho, rfl⟩ F.entry_tuple_mul (F.args_tuple_mul_2 _ _) (mul_none l its.toArray n dd sl t hem) ⟨ho, ?_⟩⟩)
      refine ⟨.ref s.heap.objs.size, _, I.laid (t' := s.toks) (o := .tup []) (fun b ob z => Heap.get?_push_of_some _ z) (Nat.le_refl _) ?_, rfl, q2 (by decide) _ (I.hok.fresh (Nat.le_refl _))⟩
      exact ⟨Nat.zero_le _, [], .nil, IsTup.new _ _⟩
    · refine wpAny_binaryOp_repeat_ref (T := "tuple") (U := "int") (by decide) ⟨_, ho, rfl⟩ (fun s' => typeIs_int s' 1 t) noFill_tuple_mul F.fills_int_mul F.slot_int_rmul repeat_tuple F.slot_int_index.lookup (call_meets F.slot_int_rmul (typeIs_int s 1 t) F.entry_int_rmul (F.args_int_rmul_2 _ _)
        (int_rmul_tuple 1 t l its.toArray n dd sl) ⟨ho, rfl, ⟨_, ho, rfl⟩, call_meets F.slot_tuple_mul ⟨_, ho, rfl⟩ F.entry_tuple_mul (F.args_tuple_mul_2 _ _) (mul_once l its.toArray n dd sl t) ⟨ho, ?_⟩⟩)
      exact ⟨.ref l, H, I, rfl, q1 rfl⟩
end

/-! ### more steps -/
def rTupOf (K : PySem.W.Frag) : List V → Hp → VK → Prop := fun xs H Q => ∃ p ys, xs = [.ref p] ∧ ((SqL K H p ys ∧ ∀ l, H l = none → Q (.ref l) (upd H l (.tup ys))) ∨ (SqT K H p ys ∧ Q (.ref p) H))
theorem call_tuple1 {X : Cx} : CallR X (.type "tuple") (rTupOf X.K) := call_tuple_of
section
variable {K : PySem.W.Frag} {H H' : Hp} {Q : VK} {σ : L2.St} {x : V}
theorem g_tupOf {p : Addr} {ys : List V} (h : SqL K H p ys) (q : ∀ l, H l = none → Q (.ref l) (upd H l (.tup ys))) : rTupOf K [.ref p] H Q := ⟨p, ys, rfl, .inl ⟨h, q⟩⟩
theorem g_inT {p : Addr} {xs : List V} (h : SqT K H p xs) (fx : flatV x = true) (fs : xs.all flatV = true) (q : Q (.bl (inV x xs)) H) : rIn K false x (.ref p) H Q := ⟨p, xs, rfl, .inr h, fx, fs, q⟩
theorem g_notInT {p : Addr} {xs : List V} (h : SqT K H p xs) (fx : flatV x = true) (fs : xs.all flatV = true) (q : Q (.bl (!inV x xs)) H) : rIn K true x (.ref p) H Q := ⟨p, xs, rfl, .inr h, fx, fs, q⟩
theorem g_sum {a : Addr} {ns : List Int} (h : SqL K H a (ns.map V.int)) (q : Q (.int ns.sum) H) : rSum K [.ref a] H Q := ⟨a, ns, rfl, h, q⟩
theorem g_pop {l : Addr} {xs : List V} {y : V} (h : H l = some (.lst xs)) (hy : xs[xs.length - 1]? = some y) (q : Q y (upd H l (.lst xs.dropLast))) : rPop (.ref l) [] H Q := ⟨l, xs, y, rfl, rfl, h, hy, q⟩
theorem w_lcTup {g : TG} {tt : TT} {te : TE} {vs : List Nat} {p : Addr} {xs : List V} (hp : SqT K H p xs) (Pv : Addr → Nat → Hp → Prop) (h0 : ∀ D, H D = none → Pv D 0 (upd H D (.lst []))) (hl : ∀ D i H', H D = none → i ≤ xs.length → Pv D i H' → SqT K H' p xs)
    (hs : ∀ D i y H', H D = none → xs[i]? = some y → Pv D i H' → g y (wipe σ vs) H' fun σ2 H2 => wipe σ2 vs = wipe σ vs ∧ tt σ2 H2 fun b H3 =>
      if b = true then te σ2 H3 fun y H4 => ∃ acc, H4 D = some (.lst acc) ∧ acc.length < sizeLine ∧ Pv D (i + 1) (upd H4 D (.lst (acc ++ [y]))) else Pv D (i + 1) H3) (hd : ∀ D H', H D = none → Pv D xs.length H' → Q (.ref D) H') :
    ∃ q, V.ref p = .ref q ∧ (∃ xs, SqT K H q xs) ∧ LcEnd g tt te vs σ Q (Itt K q) H :=
  ⟨p, rfl, ⟨xs, hp⟩, fun D hD => lc_tup (Pv D) (h0 D hD) (fun i H' hi q => hl D i H' hD hi q) (fun i y H' hy q => hs D i y H' hD hy q) (fun H' q => hd D H' hD q)⟩
/-- the end of a comprehension's turn -/
theorem g_lcput {D : Addr} {acc : List V} {y : V} {N : Hp → Prop} (h : H D = some (.lst acc)) (hl : acc.length < 100000) (q : N (upd H D (.lst (acc ++ [y])))) : ∃ acc, H D = some (.lst acc) ∧ acc.length < sizeLine ∧ N (upd H D (.lst (acc ++ [y]))) := ⟨acc, h, Nat.lt_of_lt_of_le hl (by decide), q⟩
end

/-! ### plans -/
inductive Pl where
  | pat
  | work (a b : Int)
  | row (ps : List Pl)
  | either (ps : List Pl)
  | loop (a b : Int) (p : Pl)
/-- tuples stay -/
def KeepT (H H' : Hp) : Prop := ∀ b xs, H b = some (.tup xs) → H' b = some (.tup xs)
theorem KeepT.refl (H : Hp) : KeepT H H := fun _ _ h => h
theorem KeepT.trans {H H1 H2 : Hp} (a : KeepT H H1) (b : KeepT H1 H2) : KeepT H H2 := fun c xs h => b c xs (a c xs h)
theorem keepT_same {H H' : Hp} (e : Same H H') : KeepT H H' := fun b xs h => e b _ h
theorem keepT_new {H : Hp} {p : Addr} {o : HO} (h : H p = none) : KeepT H (upd H p o) := keepT_same (same_new h)
theorem keepT_lst {H : Hp} {p : Addr} {o : HO} {xs : List V} (h : H p = some (.lst xs)) : KeepT H (upd H p o) := fun b ys e => by rw [upd_ne (ne_of e h (fun z => nomatch z))]; exact e
theorem keepT_frm {K : PySem.W.Frag} {B H H' : Hp} {S : Addr} (d : Dst K B H S) (f : Frm S H H') : KeepT H H' := fun b xs h => by
  obtain ⟨sc, ns, c, m, r, hS, _⟩ := d
  exact f b _ (ne_of h hS (fun z => nomatch z)) h
mutual
inductive PlA (H : Hp) : V → Pl → Prop
  | pat {a : Addr} : H a = some (.tup [.str "pat"]) → PlA H (.ref a) .pat
  | work {a : Addr} {x y : Int} : H a = some (.tup [.str "work", .int x, .int y]) → PlA H (.ref a) (.work x y)
  | row {a b : Addr} {vs : List V} {ps : List Pl} : H a = some (.tup [.str "row", .ref b]) → H b = some (.tup vs) → PlAs H vs ps → PlA H (.ref a) (.row ps)
  | either {a b : Addr} {vs : List V} {ps : List Pl} : H a = some (.tup [.str "either", .ref b]) → H b = some (.tup vs) → PlAs H vs ps → PlA H (.ref a) (.either ps)
  | loop {a : Addr} {x y : Int} {u : V} {p : Pl} : H a = some (.tup [.str "loop", .int x, .int y, u]) → PlA H u p → PlA H (.ref a) (.loop x y p)
inductive PlAs (H : Hp) : List V → List Pl → Prop
  | nil : PlAs H [] []
  | cons {v : V} {vs : List V} {p : Pl} {ps : List Pl} : PlA H v p → PlAs H vs ps → PlAs H (v :: vs) (p :: ps)
end
mutual
theorem PlA_keep {H H' : Hp} (e : KeepT H H') : ∀ (p : Pl) (v : V), PlA H v p → PlA H' v p
  | .pat, _, h => by cases h with | pat h => exact .pat (e _ _ h)
  | .work _ _, _, h => by cases h with | work h => exact .work (e _ _ h)
  | .row ps, _, h => by cases h with | row h1 h2 h3 => exact .row (e _ _ h1) (e _ _ h2) (PlAs_keep e ps _ h3)
  | .either ps, _, h => by cases h with | either h1 h2 h3 => exact .either (e _ _ h1) (e _ _ h2) (PlAs_keep e ps _ h3)
  | .loop _ _ p, _, h => by cases h with | loop h1 h2 => exact .loop (e _ _ h1) (PlA_keep e p _ h2)
theorem PlAs_keep {H H' : Hp} (e : KeepT H H') : ∀ (ps : List Pl) (vs : List V), PlAs H vs ps → PlAs H' vs ps
  | [], _, h => by cases h; exact .nil
  | p :: ps, _, h => by cases h with | cons h1 h2 => exact .cons (PlA_keep e p _ h1) (PlAs_keep e ps _ h2)
end
theorem PlAs.len {H : Hp} : ∀ {vs : List V} {ps : List Pl}, PlAs H vs ps → vs.length = ps.length
  | [], [], _ => rfl
  | _ :: _, _ :: _, .cons _ h => by rw [List.length_cons, List.length_cons, PlAs.len h]
theorem PlAs.at {H : Hp} : ∀ {vs : List V} {ps : List Pl} {i : Nat} {v : V}, PlAs H vs ps → vs[i]? = some v → ∃ p, ps[i]? = some p ∧ PlA H v p
  | _, _, 0, _, .cons h _, e => by cases e; exact ⟨_, rfl, h⟩
  | _, _, i + 1, _, .cons _ h, e => PlAs.at (i := i) h e
theorem PlAs.snoc {H : Hp} : ∀ {vs : List V} {ps : List Pl} {v : V} {p : Pl}, PlAs H vs ps → PlA H v p → PlAs H (vs ++ [v]) (ps ++ [p])
  | _, _, _, _, .nil, h => .cons h .nil
  | _, _, _, _, .cons a b, h => .cons a (PlAs.snoc b h)
theorem PlAs.rep {H : Hp} {v : V} {p : Pl} (h : PlA H v p) : ∀ n : Nat, PlAs H (List.replicate n [v]).flatten (List.replicate n p)
  | 0 => .nil
  | n + 1 => .cons h (PlAs.rep h n)
mutual
/-- how many tuples are plans; how deep; how many loops within one another; its bounds as they should be -/
def cnt : Pl → Nat
  | .pat => 1
  | .work _ _ => 1
  | .row ps => 1 + cnts ps
  | .either ps => 1 + cnts ps
  | .loop _ _ p => 1 + cnt p
def cnts : List Pl → Nat
  | [] => 0
  | p :: ps => cnt p + cnts ps
end
mutual
def okP : Nat → Nat → Pl → Prop
  | _, _, .pat => True
  | _, _, .work a b => 0 ≤ a ∧ a ≤ b ∧ b ≤ 1000
  | 0, _, .row _ => False
  | d + 1, l, .row ps => 0 < ps.length ∧ ps.length ≤ 20 ∧ okPs d l ps
  | 0, _, .either _ => False
  | d + 1, l, .either ps => 0 < ps.length ∧ ps.length ≤ 20 ∧ okPs d l ps
  | 0, _, .loop _ _ _ => False
  | _ + 1, 0, .loop _ _ _ => False
  | d + 1, l + 1, .loop a b p => 0 ≤ a ∧ a ≤ b ∧ b ≤ 9 ∧ okP d l p
def okPs : Nat → Nat → List Pl → Prop
  | _, _, [] => True
  | d, l, p :: ps => okP d l p ∧ okPs d l ps
end
theorem okPs_at {d l : Nat} : ∀ {ps : List Pl} {i : Nat} {p : Pl}, okPs d l ps → ps[i]? = some p → okP d l p
  | _ :: _, 0, _, h, e => by cases e; exact h.1
  | _ :: ps, i + 1, _, h, e => okPs_at (ps := ps) (i := i) h.2 e
theorem okPs_snoc {d l : Nat} : ∀ {ps : List Pl} {p : Pl}, okPs d l ps → okP d l p → okPs d l (ps ++ [p])
  | [], _, _, h => ⟨h, trivial⟩
  | _ :: ps, _, h1, h => ⟨h1.1, okPs_snoc h1.2 h⟩
theorem okPs_rep {d l : Nat} {p : Pl} (h : okP d l p) : ∀ n : Nat, okPs d l (List.replicate n p)
  | 0 => trivial
  | n + 1 => ⟨h, okPs_rep h n⟩
theorem cnt_pos : ∀ p : Pl, 1 ≤ cnt p
  | .pat => Nat.le_refl 1
  | .work _ _ => Nat.le_refl 1
  | .row _ => Nat.le_add_right 1 _
  | .either _ => Nat.le_add_right 1 _
  | .loop _ _ _ => Nat.le_add_right 1 _
theorem small_lt {n : Nat} (h : n < 100000) : n < sizeLine := Nat.lt_of_lt_of_le h (by decide)
end Wd
/-! zip; comprehensions over lists. -/
namespace Wd
open PySem PySem.Spec PyProof.Rows L2
section
variable {σ : L2.St} {H : Hp} {Q : VK} {K : PySem.W.Frag}
theorem w_zip {a : L2.St → Hp → Prop} {b : VK} {g : TG} {tb : TS} {p r : Addr} {xs ys : List V} (hl : xs.length = ys.length) (Pv : Nat → L2.St → Hp → Prop) (h0 : Pv 0 σ H) (hq : ∀ i σ H, Pv i σ H → SqL K H p xs ∧ SqL K H r ys)
    (hs : ∀ i x y T σ H, xs[i]? = some x → ys[i]? = some y → Pv i σ H → H T = none → g (.ref T) σ (upd H T (.tup [x, y])) fun σ2 H2 => tb ⟨Pv (i + 1), b, a, Pv (i + 1)⟩ σ2 H2) (hd : ∀ σ H, Pv xs.length σ H → a σ H) :
    ∃ a' b' xs ys, [V.ref p, .ref r] = [V.ref a', .ref b'] ∧ SqL K H a' xs ∧ SqL K H b' ys ∧ ForEnd g tb a b σ (Itz K a' b') H :=
  ⟨p, r, xs, ys, rfl, (hq 0 σ H h0).1, (hq 0 σ H h0).2, RZ.for_zipL (D := ⟨a, b, fun _ _ => False, fun _ _ => False⟩) hl Pv h0 hq hs hd⟩
theorem w_lcZip {g : TG} {tt : TT} {te : TE} {vs : List Nat} {p r : Addr} {xs ys : List V} (hl : xs.length = ys.length) (hp : SqL K H p xs) (hr : SqL K H r ys) (Pv : Addr → Nat → Hp → Prop) (h0 : ∀ D, H D = none → Pv D 0 (upd H D (.lst [])))
    (hq : ∀ D i H', H D = none → Pv D i H' → SqL K H' p xs ∧ SqL K H' r ys)
    (hs : ∀ D i x y T H', H D = none → xs[i]? = some x → ys[i]? = some y → Pv D i H' → H' T = none → g (.ref T) (wipe σ vs) (upd H' T (.tup [x, y])) fun σ2 H2 => wipe σ2 vs = wipe σ vs ∧ tt σ2 H2 fun b H3 =>
      if b = true then te σ2 H3 fun y H4 => ∃ acc, H4 D = some (.lst acc) ∧ acc.length < sizeLine ∧ Pv D (i + 1) (upd H4 D (.lst (acc ++ [y]))) else Pv D (i + 1) H3) (hd : ∀ D H', H D = none → Pv D xs.length H' → Q (.ref D) H') :
    ∃ a' b' xs ys, [V.ref p, .ref r] = [V.ref a', .ref b'] ∧ SqL K H a' xs ∧ SqL K H b' ys ∧ LcEnd g tt te vs σ Q (Itz K a' b') H := by
  refine ⟨p, r, xs, ys, rfl, hp, hr, fun D hD => ?_⟩
  refine ⟨fun i m H' => m = xs.length - i ∧ i ≤ xs.length ∧ Pv D i H', ⟨xs.length, by simp, Nat.zero_le _, h0 D hD⟩, ?_⟩
  rintro i m H' ⟨rfl, hi, pv⟩
  obtain ⟨qx, qy⟩ := hq D i H' hD pv
  by_cases hlt : i < xs.length
  · have hx : xs[i]? = some xs[i] := List.getElem?_eq_getElem hlt
    have hlt2 : i < ys.length := by omega
    have hy : ys[i]? = some ys[i] := List.getElem?_eq_getElem hlt2
    refine .inr ⟨⟨xs, ys, _, _, qx, qy, hx, hy⟩, Pv D (i + 1), fun H' p' => ⟨xs.length - (i + 1), by omega, rfl, hlt, p'⟩, fun v H'' y => ?_⟩
    obtain ⟨T, x', y', rfl, hT, rfl, f1, f2⟩ := y
    exact hs D i x' y' T H' hD (f1 xs qx) (f2 ys qy) pv hT
  · have e : i = xs.length := by omega
    subst e
    exact .inl ⟨⟨xs, ys, qx, qy, Or.inl (Nat.le_refl _)⟩, hd D H' hD pv⟩
theorem w_lcList {g : TG} {tt : TT} {te : TE} {vs : List Nat} {p : Addr} {xs : List V} (hp : SqL K H p xs) (Pv : Addr → Nat → Hp → Prop) (h0 : ∀ D, H D = none → Pv D 0 (upd H D (.lst []))) (hl : ∀ D i H', H D = none → i ≤ xs.length → Pv D i H' → SqL K H' p xs)
    (hs : ∀ D i y H', H D = none → xs[i]? = some y → Pv D i H' → g y (wipe σ vs) H' fun σ2 H2 => wipe σ2 vs = wipe σ vs ∧ tt σ2 H2 fun b H3 =>
      if b = true then te σ2 H3 fun y H4 => ∃ acc, H4 D = some (.lst acc) ∧ acc.length < sizeLine ∧ Pv D (i + 1) (upd H4 D (.lst (acc ++ [y]))) else Pv D (i + 1) H3) (hd : ∀ D H', H D = none → Pv D xs.length H' → Q (.ref D) H') :
    ∃ q, V.ref p = .ref q ∧ (∃ xs, SqL K H q xs) ∧ LcEnd g tt te vs σ Q (Itl K q) H :=
  ⟨p, rfl, ⟨xs, hp⟩, fun D hD => lc_list (Pv D) (h0 D hD) (fun i H' hi q => hl D i H' hD hi q) (fun i y H' hy q => hs D i y H' hD hy q) (fun H' q => hd D H' hD q)⟩
theorem g_zip {ta : TA} {R : It → Hp → Prop} (h : ta σ H fun vs H1 => ∃ a b xs ys, vs = [.ref a, .ref b] ∧ SqL K H1 a xs ∧ SqL K H1 b ys ∧ R (Itz K a b) H1) : iZip K ta σ H R := h
end
end Wd
namespace K12
open PySem PySem.Spec PyProof.Rows L2 Wd
def top (i : Nat) : Stmt := PySem.Challenge.pw_windowdog_k12_whole_a_task_that_hangs_is.main.body.getD i (.Pass ⟨0, 0, 0, 0⟩)
/-- the names that the text calls; BadWindow stands at CW -/
structure Txt (K : PySem.W.Frag) (mg : Str → Option Value) (CW : Addr) : Prop where
  n_isinstance : mg "isinstance" = none
  n_len : mg "len" = none
  n_int : mg "int" = none
  n_bool : mg "bool" = none
  n_range : mg "range" = none
  n_list : mg "list" = none
  n_tuple : mg "tuple" = none
  n_str : mg "str" = none
  n_max : mg "max" = none
  c_GREATEST_HIGH : ∃ t, mg "GREATEST_HIGH" = some (.int 1000 t)
  g_BadWindow : mg "BadWindow" = some (.ref CW)
  x_BadWindow : PySem.W.excIn K CW [.type "ValueError", .type "Exception", .type "BaseException", .type "object"] "ValueError.__new__" = true
  k_BadWindow : PySem.W.keepIn K (.ref CW) = true
  b_BadWindow : PySem.W.subIn K (.ref CW) (.type "BaseException") = some true
  t_BadWindow : PySem.W.typeIn K (.ref CW) = some (.type "type")
/-- .. and those of the keeper; BadBeat stands at CT -/
structure TxtK (K : PySem.W.Frag) (mg : Str → Option Value) (CW CT : Addr) : Prop extends Txt K mg CW where
  n_zip : mg "zip" = none
  c_GREATEST_BEAT : ∃ t, mg "GREATEST_BEAT" = some (.int 60 t)
  g_BadBeat : mg "BadBeat" = some (.ref CT)
  x_BadBeat : PySem.W.excIn K CT [.type "ValueError", .type "Exception", .type "BaseException", .type "object"] "ValueError.__new__" = true
  k_BadBeat : PySem.W.keepIn K (.ref CT) = true
  b_BadBeat : PySem.W.subIn K (.ref CT) (.type "BaseException") = some true
  t_BadBeat : PySem.W.typeIn K (.ref CT) = some (.type "type")
section
variable {P : Program} {w : World} {K : PySem.W.Frag} {mg : Str → Option Value} {base : Heap} {CW : Addr}
abbrev s_is_number : Stmt := top 5
theorem sc_is_number : FnScope ["value"] ["value"] (C8.fnScope s_is_number) := C8.fnScope_by (by decide +kernel)
def sp_is_number : Sp := fun vs H Q _ => ∃ i : Int, vs = [.int i] ∧ Q (.bl true) H
theorem ok_is_number (T : Txt K mg CW) {f : Addr} {fd : FuncData} (D : C8.Def K mg "is_number" s_is_number f fd) (b : Binds K fd ["value"] []) : C8.Cal P w K mg base 1 "is_number" sp_is_number [] := by
  refine C8.cal0 D b .nil sc_is_number (fun vs H Q E h => ?_) fun cdv A outer s H vs Q E hr h => ?_
  · obtain ⟨i, rfl, _⟩ := h; rfl
  · obtain ⟨i, rfl, q⟩ := h
    have nd := sc_is_number.nd
    refine ⟨_, (pss_one (ps_ret (pe_and (pe_callB (r := rIsi K) call_isi (by rfl) T.n_isinstance (by decide +kernel) (pa_cons (pv 0) (pa_cons (pe_bltn (v := .ty "int") (by rfl) T.n_int (by decide +kernel) rfl) pa_nil))) (pe_one (pe_not (pe_callB (r := rIsi K) call_isi (by rfl) T.n_isinstance (by decide +kernel) (pa_cons (pv 0) (pa_cons (pe_bltn (v := .ty "bool") (by rfl) T.n_bool (by decide +kernel) rfl) pa_nil)))))))), ?_⟩
    walk_at "go"
    refine g_isi (.ty "int") (.base (.int i)) (kit_ty (r := true) (by decide +kernel)) ?_
    walk_at "go"
    refine g_isi (.ty "bool") (.base (.int i)) (kit_ty (r := false) (by decide +kernel)) ?_
    walk_at "go"
    exact q

abbrev s_is_range : Stmt := top 6
theorem sc_is_range : FnScope ["least", "most", "limit"] ["least", "most", "limit"] (C8.fnScope s_is_range) := C8.fnScope_by (by decide +kernel)
def sp_is_range : Sp := fun vs H Q _ => ∃ i j k : Int, vs = [.int i, .int j, .int k] ∧ Q (.bl (decide (0 ≤ i ∧ i ≤ j ∧ j ≤ k))) H
theorem ok_is_range (T : Txt K mg CW) {f : Addr} {fd : FuncData} (D : C8.Def K mg "is_range" s_is_range f fd) (b : Binds K fd ["least", "most", "limit"] []) (g_is_number : C8.Cal P w K mg base 1 "is_number" sp_is_number []) : C8.Cal P w K mg base 2 "is_range" sp_is_range [] := by
  refine C8.cal0 D b .nil sc_is_range (fun vs H Q E h => ?_) fun cdv A outer s H vs Q E hr h => ?_
  · obtain ⟨i, j, k, rfl, _⟩ := h; rfl
  · obtain ⟨i, j, k, rfl, q⟩ := h
    have nd := sc_is_range.nd
    refine ⟨_, (pss_one (ps_ret (pe_and (C8.pe_c g_is_number hr (by first | decide | exact Nat.le_refl _ | omega) (by rfl) (pa_cons (pv 0) pa_nil)) (pe_and (C8.pe_c g_is_number hr (by first | decide | exact Nat.le_refl _ | omega) (by rfl) (pa_cons (pv 1) pa_nil)) (pe_one (pe_chain3 op_le op_le op_le pe_int (pv 0) (pv 1) (pv 2))))))), ?_⟩
    walk_at "go"
    refine ⟨i, rfl, ?_⟩
    walk_at "go"
    refine ⟨j, rfl, ?_⟩
    walk_at "go"
    refine g_ite (fun h1 => ?_) (fun h1 => ?_)
    · walk_at "go"
      refine g_ite (fun h2 => ?_) (fun h2 => ?_)
      · walk_at "go"
        have e : decide (0 ≤ i ∧ i ≤ j ∧ j ≤ k) = decide (j ≤ k) := by simp [h1, h2]
        rw [e] at q; exact q
      · walk_at "go"
        have e : decide (0 ≤ i ∧ i ≤ j ∧ j ≤ k) = false := decide_eq_false (by omega)
        rw [e] at q; exact q
    · walk_at "go"
      have e : decide (0 ≤ i ∧ i ≤ j ∧ j ≤ k) = false := decide_eq_false (by omega)
      rw [e] at q; exact q

def okW (lo hi : Int) : Prop := 0 ≤ lo ∧ lo ≤ hi ∧ hi ≤ 1000
abbrev s_check_window : Stmt := top 9
theorem sc_check_window : FnScope ["window", "low", "high"] ["window"] (C8.fnScope s_check_window) := C8.fnScope_by (by decide +kernel)
def sp_check_window (K : PySem.W.Frag) (CW : Addr) : Sp := fun vs H Q E => ∃ (W : Addr) (lo hi : Int), vs = [.ref W] ∧ SqT K H W [.int lo, .int hi] ∧ (okW lo hi → Q .non H) ∧ (¬ okW lo hi → E (.ref CW) none H)
theorem ok_check_window (T : Txt K mg CW) {f : Addr} {fd : FuncData} (D : C8.Def K mg "check_window" s_check_window f fd) (b : Binds K fd ["window"] []) (g_is_range : C8.Cal P w K mg base 2 "is_range" sp_is_range []) : CalX P w K mg base 3 "check_window" (sp_check_window K CW) := by
  refine calX D b sc_check_window (fun vs H Q E h => ?_) fun cdv A outer s H vs Q E hr h => ?_
  · obtain ⟨W, lo, hi, rfl, _⟩ := h; rfl
  · obtain ⟨W, lo, hi, rfl, hW, q1, q2⟩ := h
    have nd := sc_check_window.nd
    obtain ⟨tg, c_GREATEST_HIGH⟩ := T.c_GREATEST_HIGH
    refine ⟨_, (pss_cons (ps_asg (pv 0) (pg_tup rfl (pgs_cons (pg_name (i := 1) nd rfl (Or.inl rfl)) (pgs_cons (pg_name (i := 2) nd rfl (Or.inl rfl)) pgs_nil))))
      (pss_one (ps_if (pt_not (pt_val (C8.pe_c g_is_range hr (by first | decide | exact Nat.le_refl _ | omega) (by rfl) (pa_cons (pv 1) (pa_cons (pv 2) (pa_cons (pe_glob (v := .int 1000) rfl c_GREATEST_HIGH ⟨_, rfl⟩) pa_nil)))))) (pss_one (ps_raise rfl (takes_of rfl rfl rfl rfl) (pmk_own PySem.F.excBase_ValueError T.x_BadWindow T.g_BadWindow T.k_BadWindow (raises_own T.b_BadWindow T.t_BadWindow) (by rfl)))) pss_nil))), ?_⟩
    walk_at "go"
    refine g_gtup hW rfl ?_
    walk_at "go"
    refine ⟨lo, hi, 1000, rfl, ?_⟩
    walk_at "go"
    refine g_iteN (fun hn => ?_) (fun hy => ?_)
    · exact q2 hn
    · walk_at "go"
      exact q1 hy

/-! ### the first bite -/
def fb (lo hi : Int) : Int → List Int → Int × Str
  | last, [] => (last + hi + 1, ("late" : Str))
  | last, p :: ps => if p > last + hi then (last + hi + 1, ("late" : Str)) else if p < last + lo then (p, ("early" : Str)) else fb lo hi p ps
theorem fb_nil (lo hi last : Int) : fb lo hi last [] = (last + hi + 1, ("late" : Str)) := rfl
theorem fb_late {lo hi last p : Int} {ps : List Int} (h : p > last + hi) : fb lo hi last (p :: ps) = (last + hi + 1, ("late" : Str)) := if_pos h
theorem fb_early {lo hi last p : Int} {ps : List Int} (h : ¬ p > last + hi) (h2 : p < last + lo) : fb lo hi last (p :: ps) = (p, ("early" : Str)) := (if_neg h).trans (if_pos h2)
theorem fb_next {lo hi last p : Int} {ps : List Int} (h : ¬ p > last + hi) (h2 : ¬ p < last + lo) : fb lo hi last (p :: ps) = fb lo hi p ps := (if_neg h).trans (if_neg h2)

abbrev s_first_bite : Stmt := top 10
theorem sc_first_bite : FnScope ["window", "pats", "low", "high", "last", "pat"] ["window", "pats"] (C8.fnScope s_first_bite) := C8.fnScope_by (by decide +kernel)
def sp_first_bite (K : PySem.W.Frag) : Sp := fun vs H Q _ => ∃ (W S : Addr) (lo hi : Int) (ps : List Int), vs = [.ref W, .ref S] ∧ SqT K H W [.int lo, .int hi] ∧ SqL K H S (ps.map V.int) ∧
  ∀ q, H q = none → Q (.ref q) (upd H q (.tup [.int (fb lo hi 0 ps).1, .str (fb lo hi 0 ps).2]))
theorem ok_first_bite (T : Txt K mg CW) {f : Addr} {fd : FuncData} (D : C8.Def K mg "first_bite" s_first_bite f fd) (b : Binds K fd ["window", "pats"] []) : C8.Cal P w K mg base 1 "first_bite" (sp_first_bite K) [] := by
  refine C8.cal0 D b .nil sc_first_bite (fun vs H Q E h => ?_) fun cdv A outer s H vs Q E hr h => ?_
  · obtain ⟨W, S, lo, hi, ps, rfl, _⟩ := h; rfl
  · obtain ⟨W, S, lo, hi, ps, rfl, hW, hS, q⟩ := h
    have nd := sc_first_bite.nd
    refine ⟨_, (pss_cons (ps_asg (pv 0) (pg_tup rfl (pgs_cons (pg_name (i := 2) nd rfl (Or.inl rfl)) (pgs_cons (pg_name (i := 3) nd rfl (Or.inl rfl)) pgs_nil))))
      (pss_cons (ps_set (i := 4) nd rfl (Or.inl rfl) pe_int)
      (pss_cons (ps_for PassesOwn.never rfl (pi_list (pv 1)) (pg_name (i := 5) nd rfl (Or.inl rfl)) (pss_cons (ps_if (pt_cmpR op_gt (pv 5) (pe_op op_add (pv 4) (pv 3)) (nomark _)) (pss_one ps_break) pss_nil)
      (pss_cons (ps_if (pt_cmpR op_lt (pv 5) (pe_op op_add (pv 4) (pv 2)) (nomark _)) (pss_one (ps_ret (pe_tup (pa_cons (pv 5) (pa_cons pe_str pa_nil))))) pss_nil)
      (pss_one (ps_set (i := 4) nd rfl (Or.inl rfl) (pv 5))))))
      (pss_one (ps_ret (pe_tup (pa_cons (pe_op op_add (pe_op op_add (pv 4) (pv 3)) pe_int) (pa_cons pe_str pa_nil)))))))), ?_⟩
    walk_at "go"
    refine g_gtup hW rfl ?_
    walk_at "go"
    refine w_list (xs := ps.map V.int) (fun i σ H' => H' = H ∧ ∃ (last : Int) (v : Option V), σ = [some (.ref W), some (.ref S), some (.int lo), some (.int hi), some (.int last), v] ∧ fb lo hi 0 ps = fb lo hi last (ps.drop i)) ?_ ?_ ?_ ?_
    · exact ⟨rfl, 0, none, rfl, rfl⟩
    · rintro i σ H' _ ⟨rfl, _⟩; exact hS
    · rintro i x σ H' hx ⟨rfl, last, v, rfl, e⟩
      obtain ⟨p, hp, rfl⟩ : ∃ p, ps[i]? = some p ∧ x = V.int p := by
        rw [List.getElem?_map] at hx
        cases hq : ps[i]? with
        | none => rw [hq] at hx; cases hx
        | some z => rw [hq] at hx; exact ⟨z, rfl, (Option.some.inj hx).symm⟩
      have ed : ps.drop i = p :: ps.drop (i + 1) := by
        obtain ⟨hl, hh⟩ := List.getElem?_eq_some_iff.mp hp
        rw [List.drop_eq_getElem_cons hl, hh]
      rw [ed] at e
      walk_at "go"
      refine g_ite (fun h1 => ?_) (fun h1 => ?_)
      · rw [fb_late h1] at e
        rw [e] at q
        walk_at "go"
        exact q
      · walk_at "go"
        refine g_ite (fun h2 => ?_) (fun h2 => ?_)
        · rw [fb_early h1 h2] at e
          rw [e] at q
          walk_at "go"
          exact q
        · rw [fb_next h1 h2] at e
          walk_at "go"
          exact ⟨rfl, p, _, rfl, e⟩
    · rintro σ H' ⟨rfl, last, v, rfl, e⟩
      rw [List.length_map, List.drop_length, fb_nil] at e
      rw [e] at q
      walk_at "go"
      exact q
end
end K12
namespace K12
open PySem PySem.Spec PyProof.Rows L2 Wd
section
variable {P : Program} {w : World} {K : PySem.W.Frag} {mg : Str → Option Value} {base : Heap} {CW : Addr}
def bite (lo hi e : Int) (ps : List Int) : Option (Int × Str) := if (fb lo hi 0 ps).1 > e then none else some (fb lo hi 0 ps)
abbrev s_bitten_at : Stmt := top 11
theorem sc_bitten_at : FnScope ["window", "pats", "end", "bite"] ["window", "pats", "end"] (C8.fnScope s_bitten_at) := C8.fnScope_by (by decide +kernel)
def sp_bitten_at (K : PySem.W.Frag) (CW : Addr) : Sp := fun vs H Q E => ∃ (W S : Addr) (lo hi e : Int) (ps : List Int), vs = [.ref W, .ref S, .int e] ∧ SqT K H W [.int lo, .int hi] ∧ (¬ okW lo hi → E (.ref CW) none H) ∧
  (okW lo hi → SqL K H S (ps.map V.int) ∧ (∀ H', Same H H' → bite lo hi e ps = none → Q .non H') ∧ ∀ m wd H' q, bite lo hi e ps = some (m, wd) → Same H H' → H' q = some (.tup [.int m, .str wd]) → Q (.ref q) H')
theorem ok_bitten_at (T : Txt K mg CW) {f : Addr} {fd : FuncData} (D : C8.Def K mg "bitten_at" s_bitten_at f fd) (b : Binds K fd ["window", "pats", "end"] []) (g_check_window : CalX P w K mg base 3 "check_window" (sp_check_window K CW))
    (g_first_bite : C8.Cal P w K mg base 1 "first_bite" (sp_first_bite K) []) : CalX P w K mg base 4 "bitten_at" (sp_bitten_at K CW) := by
  refine calX D b sc_bitten_at (fun vs H Q E h => ?_) fun cdv A outer s H vs Q E hr h => ?_
  · obtain ⟨W, S, lo, hi, e, ps, rfl, _⟩ := h; rfl
  · obtain ⟨W, S, lo, hi, e, ps, rfl, hW, q1, q2⟩ := h
    have nd := sc_bitten_at.nd
    refine ⟨_, (pss_cons (ps_expr (pe_cX g_check_window hr (by first | decide | exact Nat.le_refl _ | omega) (by rfl) (fun σ => passAt (takes_of rfl rfl rfl rfl) σ) (pa_cons (pv 0) pa_nil)))
      (pss_cons (ps_set (i := 3) nd rfl (Or.inl rfl) (C8.pe_c g_first_bite hr (by first | decide | exact Nat.le_refl _ | omega) (by rfl) (pa_cons (pv 0) (pa_cons (pv 1) pa_nil))))
      (pss_cons (ps_if (pt_cmpR op_gt (pe_ix (r := rIxT K) ix_tup (pv 3) pe_int (fun _ _ => rfl)) (pv 2) (nomark _)) (pss_one (ps_ret pe_non)) pss_nil)
      (pss_one (ps_ret (pv 3)))))), ?_⟩
    walk_at "go"
    refine ⟨W, lo, hi, rfl, hW, fun ok => ?_, fun bad => q1 bad⟩
    obtain ⟨hS, k1, k2⟩ := q2 ok
    walk_at "go"
    refine ⟨W, S, lo, hi, ps, rfl, hW, hS, fun t ht => ?_⟩
    have st := same_new (o := .tup [.int (fb lo hi 0 ps).1, .str (fb lo hi 0 ps).2]) ht
    walk_at "go"
    refine g_ixT (SqT.of upd_same) rfl ?_
    walk_at "go"
    refine g_ite (fun h1 => ?_) (fun h1 => ?_)
    · walk_at "go"
      exact k1 _ st (if_pos h1)
    · walk_at "go"
      exact k2 _ _ _ t (if_neg h1) st upd_same
end
end K12
namespace K12
open PySem PySem.Spec PyProof.Rows L2 Wd
section
variable {P : Program} {w : World} {K : PySem.W.Frag} {mg : Str → Option Value} {base : Heap} {CW : Addr}
abbrev s_law_start : Stmt := top 19
theorem sc_law_start : FnScope ["_law_script", "_law_mixed", "_law_cell"] ["_law_script"] (C8.fnScope s_law_start) := C8.fnScope_by (by decide +kernel)
def sp_start (K : PySem.W.Frag) : Sp := fun vs H Q _ => ∃ (B : Hp) (sc : Addr) (ns : List Int), vs = [.ref sc] ∧ SqL K B sc (ns.map V.int) ∧ Same B H ∧ ns.length ≤ 63 ∧ ∀ H' S, H S = none → Same H H' → Dst K B H' S → Q (.ref S) H'
theorem ok_start (T : Txt K mg CW) {f : Addr} {fd : FuncData} (D : C8.Def K mg "_law_start" s_law_start f fd) (b : Binds K fd ["_law_script"] []) : C8.Cal P w K mg base 1 "_law_start" (sp_start K) [] := by
  refine C8.cal0 D b .nil sc_law_start (fun vs H Q E h => ?_) fun cdv A outer s H vs Q E hr h => ?_
  · obtain ⟨B, sc, ns, rfl, _⟩ := h; rfl
  · obtain ⟨B, sc, ns, rfl, hB, sB, hl, q⟩ := h
    have hS := list_same sB hB
    have nd := sc_law_start.nd
    refine ⟨_, (pss_cons (ps_set (i := 1) nd rfl (Or.inl rfl) pe_int)
      (pss_cons (ps_for PassesOwn.never rfl (pi_list (pv 0)) (pg_name (i := 2) nd rfl (Or.inl rfl)) (pss_one (ps_set (i := 1) nd rfl (Or.inl rfl) (pe_op op_mod (pe_op op_add (pe_op op_add (pe_op op_mulW (pv 1) pe_int) (pv 2)) pe_int) pe_int))))
      (pss_one (ps_ret (pe_lst (pa_cons (pv 0) (pa_cons pe_int (pa_cons (pv 1) (pa_cons pe_int pa_nil))))))))), ?_⟩
    walk_at "go"
    refine w_list (xs := ns.map V.int) (fun i σ H' => H' = H ∧ ∃ (m : Int) (v : Option V), σ = [some (.ref sc), some (.int m), v] ∧ 0 ≤ m ∧ m < 2147483647) ?_ ?_ ?_ ?_
    · exact ⟨rfl, 1, none, rfl, by decide, by decide⟩
    · rintro i σ H' _ ⟨rfl, _⟩; exact hS
    · rintro i x σ H' hx ⟨rfl, m, v, rfl, h1, h2⟩
      obtain ⟨c, hc, rfl⟩ := map_at hx
      walk_at "go"
      refine g_I (mulW_small h1 (by omega) (by decide) (by decide)) ?_
      walk_at "go"
      refine g_I (show (0 : Int) < 2147483647 by decide) ?_
      walk_at "go"
      exact ⟨rfl, _, _, rfl, by omega, by omega⟩
    · rintro σ H' ⟨rfl, m, v, rfl, h1, h2⟩
      walk_at "go"
      intro S hn
      exact q _ S hn (same_new hn) ⟨sc, ns, 0, m, 0, upd_same, .of hB (fun _ _ h => h) (Same.back sB hn), .of (sB.trans (same_new hn)), hl, by decide, h1, h2⟩

abbrev s_law_drawn : Stmt := top 20
theorem sc_law_drawn : FnScope ["_law_state", "_law_many", "_law_found", "_law_cell"] ["_law_state", "_law_many"] (C8.fnScope s_law_drawn) := C8.fnScope_by (by decide +kernel)
def sp_drawn (K : PySem.W.Frag) : Sp := fun vs H Q _ => ∃ (B : Hp) (S : Addr) (n : Int), vs = [.ref S, .int n] ∧ Dst K B H S ∧ 0 < n ∧ n < 10 ^ 38 ∧ ∀ H' v, Frm S H H' → Dst K B H' S → 0 ≤ v → v < n → Q (.int v) H'
theorem ok_drawn (T : Txt K mg CW) {f : Addr} {fd : FuncData} (D : C8.Def K mg "_law_drawn" s_law_drawn f fd) (b : Binds K fd ["_law_state", "_law_many"] []) : C8.Cal P w K mg base 1 "_law_drawn" (sp_drawn K) [] := by
  refine C8.cal0 D b .nil sc_law_drawn (fun vs H Q E h => ?_) fun cdv A outer s H vs Q E hr h => ?_
  · obtain ⟨B, S, n, rfl, _⟩ := h; rfl
  · obtain ⟨B, S, n, rfl, ⟨sc, ns, c, m, r, hS, hsB, fB, hl, c0, m0, m1⟩, n0, n1, q⟩ := h
    have hsc := hsB.frm fB
    have nd := sc_law_drawn.nd
    refine ⟨_, (pss_cons (ps_if (pt_cmpR op_gt (pe_ix (r := rIxL K) ix_list (pv 0) pe_int (fun _ _ => rfl)) pe_int (nomark _)) (pss_cons (ps_set (i := 2) nd rfl (Or.inl rfl) (pe_op op_mod (pe_ix (r := rIxL K) ix_list (pv 0) pe_int (fun _ _ => rfl)) (pv 1)))
      (pss_cons (ps_asg (pe_op op_fdivW (pe_ix (r := rIxL K) ix_list (pv 0) pe_int (fun _ _ => rfl)) (pv 1)) (pg_sub (pv 0) pe_int set_list))
      (pss_one (ps_ret (pv 2))))) pss_nil)
      (pss_cons (ps_asg (pe_op op_add (pe_ix (r := rIxL K) ix_list (pv 0) pe_int (fun _ _ => rfl)) pe_int) (pg_sub (pv 0) pe_int set_list))
      (pss_cons (ps_if (pt_cmpR op_le (pe_ix (r := rIxL K) ix_list (pv 0) pe_int (fun _ _ => rfl)) (pe_callB (r := Wd.rLen K) call_len1 (by rfl) T.n_len PySem.boot_len (pa_cons (pe_ix (r := rIxL K) ix_list (pv 0) pe_int (fun _ _ => rfl)) pa_nil)) (nomark _)) (pss_cons (ps_set (i := 3) nd rfl (Or.inl rfl) (pe_ix (r := rIxL K) ix_list (pe_ix (r := rIxL K) ix_list (pv 0) pe_int (fun _ _ => rfl)) (pe_op op_sub (pe_ix (r := rIxL K) ix_list (pv 0) pe_int (fun _ _ => rfl)) pe_int) (fun _ _ => rfl)))
      (pss_cons (ps_asg (pe_ifExp (pt_cmpR op_ge (pv 3) (pe_op op_pow pe_int pe_int) (nomark _)) (pe_op op_fdivW (pv 3) (pv 1)) pe_int) (pg_sub (pv 0) pe_int set_list))
      (pss_one (ps_ret (pe_op op_mod (pv 3) (pv 1)))))) pss_nil)
      (pss_cons (ps_asg (pe_op op_mod (pe_op op_add (pe_op op_mulW (pe_ix (r := rIxL K) ix_list (pv 0) pe_int (fun _ _ => rfl)) pe_int) pe_int) pe_int) (pg_sub (pv 0) pe_int set_list))
      (pss_one (ps_ret (pe_op op_mod (pe_op op_fdivW (pe_ix (r := rIxL K) ix_list (pv 0) pe_int (fun _ _ => rfl)) pe_int) (pv 1)))))))), ?_⟩
    walk_at "go"
    refine g_ixL (SqL.of hS) rfl ?_
    walk_at "go"
    refine g_ite (fun hr0 => ?_) (fun hr0 => ?_)
    · walk_at "go"
      refine g_ixL (SqL.of hS) rfl ?_
      walk_at "go"
      refine g_I n0 ?_
      walk_at "go"
      refine g_ixL (SqL.of hS) rfl ?_
      walk_at "go"
      refine g_I (divW_small n0 n1) ?_
      walk_at "go"
      refine g_setL hS rfl ?_
      walk_at "go"
      exact q _ _ .set ⟨sc, ns, c, m, r / n, upd_same, hsB, fB.trans .set, hl, c0, m0, m1⟩ (Int.emod_nonneg _ (by omega)) (Int.emod_lt_of_pos _ n0)
    · walk_at "go"
      refine g_ixL (SqL.of hS) rfl ?_
      walk_at "go"
      refine g_setL hS rfl ?_
      walk_at "go"
      refine g_ixL (SqL.of upd_same) rfl ?_
      walk_at "go"
      refine g_ixL (SqL.of upd_same) rfl ?_
      walk_at "go"
      refine g_len (.inl (hsc.frm .set).sq) ?_
      walk_at "go"
      rw [List.length_map]
      refine g_ite (fun hc => ?_) (fun hc => ?_)
      · walk_at "go"
        refine g_ixL (SqL.of upd_same) rfl ?_
        walk_at "go"
        refine g_ixL (SqL.of upd_same) rfl ?_
        walk_at "go"
        have hcl : c.toNat < ns.length := by omega
        refine g_ixL (hsc.frm .set).sq (at_of (j := c.toNat) (v := V.int (ns[c.toNat]'hcl)) (by omega) (by rw [List.getElem?_map, List.getElem?_eq_getElem hcl]; rfl)) ?_
        generalize ns[c.toNat]'hcl = z
        walk_at "go"
        refine g_I (pow_small (by decide) (by decide) (by decide)) ?_
        walk_at "go"
        have fin : ∀ x : Int, Frm S H (upd (upd H S (HO.lst [V.ref sc, V.int (c + 1), V.int m, V.int r])) S (HO.lst [V.ref sc, V.int (c + 1), V.int m, V.int x])) ∧ Dst K B (upd (upd H S (HO.lst [V.ref sc, V.int (c + 1), V.int m, V.int r])) S (HO.lst [V.ref sc, V.int (c + 1), V.int m, V.int x])) S := fun x =>
          ⟨Frm.set.trans .set, sc, ns, c + 1, m, x, upd_same, hsB, (fB.trans .set).trans .set, hl, by omega, m0, m1⟩
        refine g_ite (fun hz => ?_) (fun hz => ?_)
        · walk_at "go"
          refine g_I (divW_small n0 n1) ?_
          walk_at "go"
          refine g_setL upd_same rfl ?_
          walk_at "go"
          refine g_I n0 ?_
          exact q _ _ (fin _).1 (fin _).2 (Int.emod_nonneg _ (by omega)) (Int.emod_lt_of_pos _ n0)
        · walk_at "go"
          refine g_setL upd_same rfl ?_
          walk_at "go"
          refine g_I n0 ?_
          exact q _ _ (fin _).1 (fin _).2 (Int.emod_nonneg _ (by omega)) (Int.emod_lt_of_pos _ n0)
      · walk_at "go"
        refine g_ixL (SqL.of upd_same) rfl ?_
        walk_at "go"
        refine g_I (mulW_small m0 (by omega) (by decide) (by decide)) ?_
        walk_at "go"
        refine g_I (show (0 : Int) < 2147483647 by decide) ?_
        walk_at "go"
        refine g_setL upd_same rfl ?_
        walk_at "go"
        refine g_ixL (SqL.of upd_same) rfl ?_
        walk_at "go"
        refine g_I (divW_small (by decide) (by decide)) ?_
        walk_at "go"
        refine g_I n0 ?_
        exact q _ _ (Frm.set.trans .set) ⟨sc, ns, c + 1, _, r, upd_same, hsB, (fB.trans .set).trans .set, hl, by omega, Int.emod_nonneg _ (by decide), Int.emod_lt_of_pos _ (by decide)⟩ (Int.emod_nonneg _ (by omega)) (Int.emod_lt_of_pos _ n0)
theorem use_drawn {B H : Hp} {S : Addr} {n : Int} {Q : VK} {E : XK} (d : Dst K B H S) (h0 : 0 < n) (h1 : n < 10 ^ 38) (k : ∀ H' v, Frm S H H' → Dst K B H' S → 0 ≤ v → v < n → Q (.int v) H') : sp_drawn K ([.ref S, .int n] ++ []) H Q E := ⟨B, S, n, rfl, d, h0, h1, k⟩

abbrev s_law_window : Stmt := top 21
theorem sc_law_window : FnScope ["_law_state", "_law_most", "_law_high"] ["_law_state", "_law_most"] (C8.fnScope s_law_window) := C8.fnScope_by (by decide +kernel)
def sp_window (K : PySem.W.Frag) : Sp := fun vs H Q _ => ∃ (B : Hp) (S : Addr) (n : Int), vs = [.ref S, .int n] ∧ Dst K B H S ∧ 0 ≤ n ∧ n ≤ 1000 ∧
  ∀ H' W lo hi, Frm S H H' → Dst K B H' S → H' W = some (.tup [.int lo, .int hi]) → W ≠ S → 0 ≤ lo → lo ≤ hi → hi ≤ n → Q (.ref W) H'
theorem ok_window (T : Txt K mg CW) {f : Addr} {fd : FuncData} (D : C8.Def K mg "_law_window" s_law_window f fd) (b : Binds K fd ["_law_state", "_law_most"] []) (g_law_drawn : C8.Cal P w K mg base 1 "_law_drawn" (sp_drawn K) []) : C8.Cal P w K mg base 2 "_law_window" (sp_window K) [] := by
  refine C8.cal0 D b .nil sc_law_window (fun vs H Q E h => ?_) fun cdv A outer s H vs Q E hr h => ?_
  · obtain ⟨B, S, n, rfl, _⟩ := h; rfl
  · obtain ⟨B, S, n, rfl, d, n0, n1, q⟩ := h
    have nd := sc_law_window.nd
    refine ⟨_, (pss_cons (ps_set (i := 2) nd rfl (Or.inl rfl) (C8.pe_c g_law_drawn hr (by first | decide | exact Nat.le_refl _ | omega) (by rfl) (pa_cons (pv 0) (pa_cons (pe_op op_add (pv 1) pe_int) pa_nil))))
      (pss_one (ps_ret (pe_tup (pa_cons (pe_ix (r := rIxL K) ix_list (pe_lst (pa_cons pe_int (pa_cons (C8.pe_c g_law_drawn hr (by first | decide | exact Nat.le_refl _ | omega) (by rfl) (pa_cons (pv 0) (pa_cons (pe_op op_add (pv 2) pe_int) pa_nil))) (pa_cons (C8.pe_c g_law_drawn hr (by first | decide | exact Nat.le_refl _ | omega) (by rfl) (pa_cons (pv 0) (pa_cons (pe_op op_add (pe_op op_fdivW (pv 2) pe_int) pe_int) pa_nil))) pa_nil)))) (C8.pe_c g_law_drawn hr (by first | decide | exact Nat.le_refl _ | omega) (by rfl) (pa_cons (pv 0) (pa_cons pe_int pa_nil))) (fun _ _ => rfl)) (pa_cons (pv 2) pa_nil)))))), ?_⟩
    walk_at "go"
    refine use_drawn d (by omega) (by omega) fun H1 hi f1 d1 hi0 hi1 => ?_
    walk_at "go"
    refine use_drawn d1 (by omega) (by omega) fun H2 a f2 d2 a0 a1 => ?_
    walk_at "go"
    refine g_I (divW_small (by decide) (by decide)) ?_
    walk_at "go"
    refine use_drawn d2 (by omega) (by omega) fun H3 c f3 d3 c0 c1 => ?_
    walk_at "go"
    intro l hl
    have d4 := d3.same (same_new (o := .lst [.int 0, .int a, .int c]) hl)
    walk_at "go"
    refine use_drawn (n := 3) d4 (by decide) (by decide) fun H5 v f5 d5 v0 v1 => ?_
    have h5 := f5 _ _ (d3.ne hl) upd_same
    obtain ⟨x, hx, hx2⟩ := atI_mem (xs := [.int 0, .int a, .int c]) v0 v1
    refine g_ixL (SqL.of h5) hx2 ?_
    obtain ⟨lo, rfl, lo0, lo1⟩ : ∃ z, x = V.int z ∧ 0 ≤ z ∧ z ≤ hi := by
      simp only [List.mem_cons, List.not_mem_nil, or_false] at hx
      rcases hx with rfl | rfl | rfl
      · exact ⟨_, rfl, by omega, by omega⟩
      · exact ⟨_, rfl, by omega, by omega⟩
      · exact ⟨_, rfl, by omega, by omega⟩
    walk_at "go"
    intro t ht
    exact q _ t lo hi (((((f1.trans f2).trans f3).trans (.new hl)).trans f5).trans (.new ht)) (d5.same (same_new ht)) upd_same (d5.ne ht) lo0 lo1 (by omega)
end
end K12
namespace K12
open PySem PySem.Spec PyProof.Rows L2 Wd
/-! ### the keeper: the mirror -/
/-- the place of the first moment behind l -/
def ix : List Int → Int → Nat
  | [], _ => 0
  | x :: xs, l => if l < x then 0 else ix xs l + 1
theorem ix_le : ∀ (ms : List Int) (l : Int), ix ms l ≤ ms.length
  | [], _ => Nat.le_refl _
  | x :: xs, l => by
    unfold ix
    split
    · exact Nat.zero_le _
    · exact Nat.succ_le_succ (ix_le xs l)
theorem ix_at : ∀ {ms : List Int} {l x : Int}, ms[ix ms l]? = some x → l < x
  | [], _, _, h => by cases h
  | y :: ys, l, x, h => by
    unfold ix at h
    split at h
    · rename_i c; cases h; exact c
    · exact ix_at (ms := ys) h
theorem ix_lt : ∀ {ms : List Int} {l x : Int} {j : Nat}, ms[j]? = some x → j < ix ms l → x ≤ l
  | [], _, _, _, h, _ => by cases h
  | y :: ys, l, x, j, h, hj => by
    unfold ix at hj
    split at hj
    · omega
    · rename_i c
      match j, h with
      | 0, h => cases h; omega
      | j + 1, h => exact ix_lt (ms := ys) (j := j) h (by omega)
theorem ix_mono : ∀ (ms : List Int) {l l' : Int}, l ≤ l' → ix ms l ≤ ix ms l'
  | [], _, _, _ => Nat.le_refl _
  | x :: xs, l, l', h => by
    unfold ix
    split
    · exact Nat.zero_le _
    · rename_i c
      rw [if_neg (by omega)]
      exact Nat.succ_le_succ (ix_mono xs h)
theorem ix_stop {ms : List Int} {l x : Int} {j : Nat} (h : ms[j]? = some x) (hj : j ≤ ix ms l) (hx : l < x) : j = ix ms l := by
  by_cases e : j = ix ms l
  · exact e
  · have := ix_lt h (Nat.lt_of_le_of_ne hj e); omega
theorem ix_go {ms : List Int} {l x : Int} {j : Nat} (h : ms[j]? = some x) (hj : j ≤ ix ms l) (hx : x ≤ l) : j + 1 ≤ ix ms l := by
  by_cases e : j = ix ms l
  · subst e; have := ix_at h; omega
  · omega
/-- by when all tasks have reported behind l -/
def due (l : Int) : List (List Int) → Int → Option Int
  | [], d => some d
  | m :: ms, d => match m[ix m l]? with
    | none => none
    | some x => due l ms (if x > d then x else d)
theorem due_no {l : Int} {m : List Int} {ms : List (List Int)} {d : Int} (h : m[ix m l]? = none) : due l (m :: ms) d = none := by unfold due; rw [h]
theorem due_yes {l : Int} {m : List Int} {ms : List (List Int)} {d x : Int} (h : m[ix m l]? = some x) : due l (m :: ms) d = due l ms (if x > d then x else d) := by conv => lhs; unfold due; rw [h]
theorem due_ge {l : Int} : ∀ {ms : List (List Int)} {d r : Int}, due l ms d = some r → d ≤ r
  | [], d, r, h => by unfold due at h; cases h; exact Int.le_refl _
  | m :: ms, d, r, h => by
    cases e : m[ix m l]? with
    | none => rw [due_no e] at h; cases h
    | some x =>
      rw [due_yes e] at h
      have := due_ge h
      split at this <;> omega
/-- the pat behind the one at l -/
def nx (b : Int) (ms : List (List Int)) (l : Int) : Option Int := (due l ms (l + 1)).map fun d => (d + b - 1) / b * b
theorem up_beat {d b : Int} (h : 1 ≤ b) : d ≤ (d + b - 1) / b * b ∧ (d + b - 1) / b * b < d + b := by
  have h1 := Int.mul_ediv_add_emod (d + b - 1) b
  have h2 := Int.emod_nonneg (d + b - 1) (show b ≠ 0 by omega)
  have h3 := Int.emod_lt_of_pos (d + b - 1) (show 0 < b by omega)
  rw [Int.mul_comm] at h1
  omega
theorem nx_gt {b : Int} (h : 1 ≤ b) {ms : List (List Int)} {l q : Int} (e : nx b ms l = some q) : l < q := by
  unfold nx at e
  cases hd : due l ms (l + 1) with
  | none => rw [hd] at e; cases e
  | some d =>
    rw [hd] at e
    have e' : (d + b - 1) / b * b = q := Option.some.inj e
    have := due_ge hd
    have := (up_beat (d := d) h).1
    omega
/-- pats up to e, from that at l on -/
def up (f : Int → Option Int) (e : Int) : Nat → Int → List Int
  | 0, _ => []
  | n + 1, l => match f l with
    | none => []
    | some q => if q > e then [] else q :: up f e n q
theorem up_none {f : Int → Option Int} {e l : Int} {n : Nat} (h : f l = none) : up f e (n + 1) l = [] := by unfold up; rw [h]
theorem up_far {f : Int → Option Int} {e l q : Int} {n : Nat} (h : f l = some q) (c : q > e) : up f e (n + 1) l = [] := by unfold up; rw [h]; exact if_pos c
theorem up_pat {f : Int → Option Int} {e l q : Int} {n : Nat} (h : f l = some q) (c : ¬ q > e) : up f e (n + 1) l = q :: up f e n q := by
  conv => lhs; unfold up; rw [h]
  exact if_neg c
def kp (b : Int) (ms : List (List Int)) (e : Int) : List Int := up (nx b ms) e (e.toNat + 1) 0
/-- lists of numbers in a list -/
structure Rep (K : PySem.W.Frag) (H : Hp) (R : Addr) (as : List Addr) (ms : List (List Int)) : Prop where
  at_ : SqL K H R (as.map V.ref)
  len : as.length = ms.length
  own : ∀ (i : Nat) (a : Addr) (m : List Int), as[i]? = some a → ms[i]? = some m → SqL K H a (m.map V.int)
theorem Rep.same {K : PySem.W.Frag} {H H' : Hp} {R : Addr} {as : List Addr} {ms : List (List Int)} (r : Rep K H R as ms) (e : Same H H') : Rep K H' R as ms := ⟨list_same e r.at_, r.len, fun i a m h1 h2 => list_same e (r.own i a m h1 h2)⟩
theorem Rep.get {K : PySem.W.Frag} {H : Hp} {R : Addr} {as : List Addr} {ms : List (List Int)} (r : Rep K H R as ms) {i : Nat} {x : V} (h : (as.map V.ref)[i]? = some x) : ∃ a m, x = .ref a ∧ as[i]? = some a ∧ ms[i]? = some m ∧ SqL K H a (m.map V.int) := by
  rw [List.getElem?_map] at h
  cases ha : as[i]? with
  | none => rw [ha] at h; cases h
  | some a =>
    rw [ha] at h
    have hi : i < ms.length := by rw [← r.len]; exact (List.getElem?_eq_some_iff.mp ha).1
    have hm : ms[i]? = some ms[i] := List.getElem?_eq_getElem hi
    exact ⟨a, ms[i], (Option.some.inj h).symm, rfl, hm, r.own i a _ ha hm⟩
section
variable {P : Program} {w : World} {K : PySem.W.Frag} {mg : Str → Option Value} {base : Heap} {CW CT : Addr}
def okB (b : Int) : Prop := 1 ≤ b ∧ b ≤ 60
abbrev s_check_beat : Stmt := top 14
theorem sc_check_beat : FnScope ["beat"] ["beat"] (C8.fnScope s_check_beat) := C8.fnScope_by (by decide +kernel)
def sp_check_beat (CT : Addr) : Sp := fun vs H Q E => ∃ b : Int, vs = [.int b] ∧ (okB b → Q .non H) ∧ (¬ okB b → E (.ref CT) none H)
theorem ok_check_beat (T : TxtK K mg CW CT) {f : Addr} {fd : FuncData} (D : C8.Def K mg "check_beat" s_check_beat f fd) (b : Binds K fd ["beat"] []) (g_is_number : C8.Cal P w K mg base 1 "is_number" sp_is_number []) : CalX P w K mg base 2 "check_beat" (sp_check_beat CT) := by
  refine calX D b sc_check_beat (fun vs H Q E h => ?_) fun cdv A outer s H vs Q E hr h => ?_
  · obtain ⟨b, rfl, _⟩ := h; rfl
  · obtain ⟨b, rfl, q1, q2⟩ := h
    have nd := sc_check_beat.nd
    obtain ⟨tg, c_GREATEST_BEAT⟩ := T.c_GREATEST_BEAT
    refine ⟨_, (pss_one (ps_if (PW.pt (pw_or (pt_not (pt_val (C8.pe_c g_is_number hr (by first | decide | exact Nat.le_refl _ | omega) (by rfl) (pa_cons (pv 0) pa_nil)))) (pw_or1 (pt_not (pt_chain op_le op_le pe_int (pv 0) (pe_glob (v := .int 60) rfl c_GREATEST_BEAT ⟨_, rfl⟩)))))) (pss_one (ps_raise rfl (takes_of rfl rfl rfl rfl) (pmk_own PySem.F.excBase_ValueError T.x_BadBeat T.g_BadBeat T.k_BadBeat (raises_own T.b_BadBeat T.t_BadBeat) (by rfl)))) pss_nil)), ?_⟩
    walk_at "go"
    refine ⟨b, rfl, ?_⟩
    walk_at "go"
    refine g_ite (fun h1 => ?_) (fun h1 => ?_)
    · walk_at "go"
      refine g_iteN (fun h2 => ?_) (fun h2 => ?_)
      · exact q2 (fun z => h2 z.2)
      · walk_at "go"
        exact q1 ⟨h1, h2⟩
    · walk_at "go"
      exact q2 (fun z => h1 z.1)

abbrev s_first_behind : Stmt := top 15
theorem sc_first_behind : FnScope ["moments", "at", "last"] ["moments", "at", "last"] (C8.fnScope s_first_behind) := C8.fnScope_by (by decide +kernel)
def sp_first_behind (K : PySem.W.Frag) : Sp := fun vs H Q _ => ∃ (A : Addr) (a : Nat) (l : Int) (ms : List Int), vs = [.ref A, .int a, .int l] ∧ SqL K H A (ms.map V.int) ∧ a ≤ ix ms l ∧ Q (.int (ix ms l)) H
theorem ok_first_behind (T : TxtK K mg CW CT) {f : Addr} {fd : FuncData} (D : C8.Def K mg "first_behind" s_first_behind f fd) (b : Binds K fd ["moments", "at", "last"] []) : C8.Cal P w K mg base 1 "first_behind" (sp_first_behind K) [] := by
  refine C8.cal0 D b .nil sc_first_behind (fun vs H Q E h => ?_) fun cdv A outer s H vs Q E hr h => ?_
  · obtain ⟨A, a, l, ms, rfl, _⟩ := h; rfl
  · obtain ⟨S, a, l, ms, rfl, hS, ha, q⟩ := h
    have nd := sc_first_behind.nd
    refine ⟨_, (pss_cons (ps_while PassesOwn.never (PW.pt (pw_and (pt_cmpR op_lt (pv 1) (pe_callB (r := Wd.rLen K) call_len1 (by rfl) T.n_len PySem.boot_len (pa_cons (pv 0) pa_nil)) (nomark _)) (pw_and1 (pt_cmpR op_le (pe_ix (r := rIxL K) ix_list (pv 0) (pv 1) (fun _ _ => rfl)) (pv 2) (nomark _))))) (pss_one (ps_aug (i := 1) nd rfl (Or.inl rfl) pe_int ip_add)))
      (pss_one (ps_ret (pv 1)))), ?_⟩
    walk_at "go"
    have le := ix_le ms l
    refine w_loop (fun m σ H' => H' = H ∧ ∃ j : Nat, σ = [some (.ref S), some (.int j), some (.int l)] ∧ j ≤ ix ms l ∧ m = ms.length - j) (ms.length - a) ⟨rfl, a, rfl, ha, rfl⟩ ?_
    rintro m σ H' ⟨rfl, j, rfl, hj, rfl⟩
    walk_at "go"
    refine g_len (.inl hS) ?_
    walk_at "go"
    rw [List.length_map]
    refine g_ite (fun h1 => ?_) (fun h1 => ?_)
    · have hl : j < ms.length := by omega
      have hx : ms[j]? = some ms[j] := List.getElem?_eq_getElem hl
      generalize ms[j] = x at hx
      walk_at "go"
      refine g_ixL hS (at_of (j := j) (v := .int x) rfl (by rw [List.getElem?_map, hx]; rfl)) ?_
      walk_at "go"
      refine g_ite (fun h2 => ?_) (fun h2 => ?_)
      · refine ⟨fun σ' H9 => H9 = H' ∧ σ' = [some (.ref S), some (.int (j + 1 : Nat)), some (.int l)], ?_, ?_⟩
        · rintro σ' H9 ⟨rfl, rfl⟩
          exact ⟨ms.length - (j + 1), by omega, rfl, j + 1, rfl, ix_go hx hj h2, rfl⟩
        · walk_at "go"
          refine ⟨_, rfl, ?_⟩
          walk_at "go"
          exact ⟨_, _, rfl, rfl, rfl, rfl⟩
      · walk_at "go"
        rw [← ix_stop hx hj (by omega)] at q
        exact q
    · walk_at "go"
      have e : j = ix ms l := by omega
      rw [← e] at q
      exact q
end
end K12
namespace K12
open PySem PySem.Spec PyProof.Rows L2 Wd
section
variable {P : Program} {w : World} {K : PySem.W.Frag} {mg : Str → Option Value} {base : Heap} {CW CT : Addr}
/-- places in the lists, none beyond the first moment behind l -/
def Plc (l : Int) (ms : List (List Int)) (ps : List Nat) : Prop := ps.length = ms.length ∧ ∀ (i : Nat) (m : List Int) (p : Nat), ms[i]? = some m → ps[i]? = some p → p ≤ ix m l
abbrev nI (n : Nat) : V := .int n
abbrev s_keeper_pats : Stmt := top 16
theorem sc_keeper_pats : FnScope ["beat", "reports", "end", "pats", "last", "places", "moments", "at", "due"] ["beat", "reports", "end"] (C8.fnScope s_keeper_pats) := C8.fnScope_by (by decide +kernel)
def sp_keeper_pats (K : PySem.W.Frag) (CT : Addr) : Sp := fun vs H Q E => ∃ (bt e : Int) (R : Addr) (as : List Addr) (ms : List (List Int)), vs = [.int bt, .ref R, .int e] ∧ (¬ okB bt → E (.ref CT) none H) ∧
  (okB bt → Rep K H R as ms ∧ ms.length ≤ 1000 ∧ (∀ m ∈ ms, ∀ x ∈ m, x ≤ 1000000) ∧ 0 ≤ e ∧ e ≤ 90000 ∧ ∀ H' L, Same H H' → H L = none → H' L = some (.lst ((kp bt ms e).map V.int)) → Q (.ref L) H')
theorem due_le {l B : Int} : ∀ {ms : List (List Int)} {d r : Int}, due l ms d = some r → (∀ m ∈ ms, ∀ x ∈ m, x ≤ B) → d ≤ B → r ≤ B
  | [], d, r, h, _, hd => by unfold due at h; cases h; exact hd
  | m :: ms, d, r, h, hb, hd => by
    cases e : m[ix m l]? with
    | none => rw [due_no e] at h; cases h
    | some x =>
      rw [due_yes e] at h
      have hx := hb m List.mem_cons_self x (List.mem_of_getElem? e)
      refine due_le h (fun m' hm' => hb m' (List.mem_cons_of_mem _ hm')) ?_
      split <;> omega
theorem nI_at {ns : List Nat} {i : Nat} {x : V} (h : (ns.map nI)[i]? = some x) : ∃ n, ns[i]? = some n ∧ x = nI n := by
  rw [List.getElem?_map] at h
  cases hq : ns[i]? with
  | none => rw [hq] at h; cases h
  | some z => rw [hq] at h; exact ⟨z, rfl, (Option.some.inj h).symm⟩
theorem dropI_at {α : Type} : ∀ {l : List α} {i : Nat} {x : α}, l[i]? = some x → l.drop i = x :: l.drop (i + 1)
  | _ :: _, 0, _, e => by cases e; rfl
  | _ :: l, i + 1, _, e => dropI_at (l := l) (i := i) e
def KInv (H : Hp) (bt e : Int) (R L : Addr) (ms : List (List Int)) (n : Nat) (σ : L2.St) (H' : Hp) : Prop := ∃ (PA : Addr) (acc : List Int) (l : Int) (ps : List Nat) (v6 v7 v8 : Option V),
  σ = [some (.int bt), some (.ref R), some (.int e), some (.ref L), some (.int l), some (.ref PA), v6, v7, v8] ∧ Same H H' ∧ H' L = some (.lst (acc.map V.int)) ∧ H' PA = some (.lst (ps.map nI)) ∧ PA ≠ L ∧
      Plc l ms ps ∧ 0 ≤ l ∧ l ≤ e ∧ acc ++ up (nx bt ms) e n l = kp bt ms e ∧ (e - l).toNat < n ∧ (acc.length : Int) ≤ l
theorem ok_keeper_pats (T : TxtK K mg CW CT) {f : Addr} {fd : FuncData} (D : C8.Def K mg "keeper_pats" s_keeper_pats f fd) (b : Binds K fd ["beat", "reports", "end"] []) (g_check_beat : CalX P w K mg base 2 "check_beat" (sp_check_beat CT))
    (g_first_behind : C8.Cal P w K mg base 1 "first_behind" (sp_first_behind K) []) : CalX P w K mg base 3 "keeper_pats" (sp_keeper_pats K CT) := by
  refine calX D b sc_keeper_pats (fun vs H Q E h => ?_) fun cdv A outer s H vs Q E hr h => ?_
  · obtain ⟨bt, e, R, as, ms, rfl, _⟩ := h; rfl
  · obtain ⟨bt, e, R, as, ms, rfl, q1, q2⟩ := h
    have nd := sc_keeper_pats.nd
    refine ⟨_, (pss_cons (ps_expr (pe_cX g_check_beat hr (by first | decide | exact Nat.le_refl _ | omega) (by rfl) (fun σ => passAt (takes_of rfl rfl rfl rfl) σ) (pa_cons (pv 0) pa_nil)))
      (pss_cons (ps_set (i := 3) nd rfl (Or.inl rfl) (pe_lst pa_nil))
      (pss_cons (ps_set (i := 4) nd rfl (Or.inr rfl) pe_int)
      (pss_cons (ps_setLc (i := 5) (own := [("moments", 6)]) (g := gName 6) (tt := tYes) rfl nd rfl rfl (sw_true rfl rfl rfl (by decide +kernel)) (pi_list (pv 1)) (blkOk_by (N := ["beat", "reports", "end", "pats", "last", "places", "moments", "at", "due"]) (sc := C8.fnScope s_keeper_pats) (by decide +kernel)) (fun _ _ _ _ _ => pg_name (i := 6) nd rfl (Or.inl rfl)) (fun _ _ _ _ _ => pts_nil) (fun _ _ _ _ _ => pe_int))
      (pss_one (ps_while (passes_of rfl) (pt_val pe_bl) (pss_cons (ps_setLc (i := 5) (own := [("moments", 6), ("at", 7)]) (g := (gTup K 2 (gCons (gName 6) (gCons (gName 7) gNil)))) (tt := tYes) rfl nd rfl rfl (sw_true rfl rfl rfl (by decide +kernel)) (pi_zip (by rfl) T.n_zip (pa_cons (pv 1) (pa_cons (pv 5) pa_nil))) (blkOk_by (N := ["beat", "reports", "end", "pats", "last", "places", "moments", "at", "due"]) (sc := C8.fnScope s_keeper_pats) (by decide +kernel)) (fun _ _ _ _ _ => (pg_tup rfl (pgs_cons (pg_name (i := 6) nd rfl (Or.inl rfl)) (pgs_cons (pg_name (i := 7) nd rfl (Or.inl rfl)) pgs_nil)))) (fun _ _ _ _ _ => pts_nil) (fun _ _ _ _ _ => (C8.pe_c g_first_behind hr (by first | decide | exact Nat.le_refl _ | omega) (by rfl) (pa_cons (pv 6) (pa_cons (pv 7) (pa_cons (pv 4) pa_nil))))))
      (pss_cons (ps_set (i := 8) nd rfl (Or.inl rfl) (pe_op op_add (pv 4) pe_int))
      (pss_cons (ps_for (passes_of rfl) rfl (pi_zip (by rfl) T.n_zip (pa_cons (pv 1) (pa_cons (pv 5) pa_nil))) (pg_tup rfl (pgs_cons (pg_name (i := 6) nd rfl (Or.inl rfl)) (pgs_cons (pg_name (i := 7) nd rfl (Or.inl rfl)) pgs_nil))) (pss_cons (ps_if (pt_cmpR op_eq (pv 7) (pe_callB (r := Wd.rLen K) call_len1 (by rfl) T.n_len PySem.boot_len (pa_cons (pv 6) pa_nil)) (nomark _)) (pss_one (ps_ret (pv 3))) pss_nil)
      (pss_one (ps_set (i := 8) nd rfl (Or.inl rfl) (pe_callB (call_max1 rfl) (by rfl) T.n_max (by decide +kernel) (pa_cons (pv 8) (pa_cons (pe_ix (r := rIxL K) ix_list (pv 6) (pv 7) (fun _ _ => rfl)) pa_nil)))))))
      (pss_cons (ps_set (i := 4) nd rfl (Or.inr rfl) (pe_op op_mulW (pe_op op_fdivW (pe_op op_sub (pe_op op_add (pv 8) (pv 0)) pe_int) (pv 0)) (pv 0)))
      (pss_cons (ps_if (pt_cmpR op_gt (pv 4) (pv 2) (nomark _)) (pss_one (ps_ret (pv 3))) pss_nil)
      (pss_one (ps_expr (pe_bmK (K := K) rfl PySem.F.plainAttrs_list PySem.F.slot_list_append PySem.F.type_list_append mt_append (pv 3) (pa_cons (pv 4) pa_nil))))))))))))))), ?_⟩
    walk_at "go"
    refine ⟨bt, rfl, fun ok => ?_, fun bad => q1 bad⟩
    obtain ⟨rp, hlen, hb, e0, e1, q⟩ := q2 ok
    walk_at "go"
    intro L hL
    have s1 := same_new (o := .lst []) hL
    have eL := upd_same (H := H) (a := L) (o := .lst [])
    generalize upd H L (.lst []) = H1 at s1 eL
    walk_at "go"
    refine w_lcList (rp.same s1).at_ (fun D i H' => Same H1 H' ∧ H' D = some (.lst ((List.replicate i 0).map nI))) (fun D hD => ⟨same_new hD, upd_same⟩) (fun D i H' hD _ h => list_same h.1 (rp.same s1).at_) (fun D i y H' hD hy h => ?_) (fun PA H2 hPA h => ?_)
    · walk_at "go"
      refine ⟨rfl, ?_⟩
      walk_at "go"
      have li := (List.getElem?_eq_some_iff.mp hy).1
      rw [List.length_map, rp.len] at li
      exact ⟨_, h.2, by rw [sizeLine_eq, List.length_map, List.length_replicate]; omega, Wd.Same.mut h.1 hD, by rw [upd_same, List.replicate_succ', List.map_append]; rfl⟩
    obtain ⟨s2, eP⟩ := h
    rw [List.length_map, rp.len] at eP
    have hPL : PA ≠ L := fun z => by rw [z, eL] at hPA; cases hPA
    have s02 := s1.trans s2
    have eL2 := s2 _ _ eL
    clear s1 s2
    walk_at "go"
    refine w_loop (KInv H bt e R L ms) (e.toNat + 1) ?_ ?_
    · refine ⟨PA, [], 0, List.replicate ms.length 0, _, _, _, rfl, s02, eL2, eP, hPL, ⟨List.length_replicate, fun i m p _ hp => ?_⟩, by omega, by omega, rfl, by omega, by simp⟩
      have := List.mem_of_getElem? hp
      rw [List.mem_replicate] at this
      omega
    clear eP hPL s02 eL2 eL
    rintro n σ H3 ⟨PA, acc, l, ps, v6, v7, v8, rfl, s3, eL3, eP3, hPL, plc, l0, le, er, fu, al⟩
    match n, fu, er with
    | 0, fu, _ => omega
    | n + 1, fu, er =>
    walk_at "go"
    refine ⟨KInv H bt e R L ms n, fun σ' H' h => ⟨n, Nat.lt_succ_self n, h⟩, ?_⟩
    walk_at "go"
    refine g_zip ?_
    walk_at "go"
    have r3 := rp.same s3
    have lps : (as.map V.ref).length = (ps.map nI).length := by rw [List.length_map, List.length_map, rp.len, plc.1]
    refine w_lcZip lps r3.at_ (SqL.of eP3) (fun D i H' => Same H3 H' ∧ ∃ cs : List Nat, H' D = some (.lst (cs.map nI)) ∧ cs.length = i ∧ ∀ (j : Nat) (m : List Int), j < i → ms[j]? = some m → cs[j]? = some (ix m l)) (fun D hD => ⟨same_new hD, [], upd_same, rfl, fun j m hj => by omega⟩) (fun D i H' hD h => ⟨list_same h.1 r3.at_, list_same h.1 (SqL.of eP3)⟩) (fun D i x y T H' hD hx hy h hT => ?_) (fun PB H4 hPB h => ?_)
    · obtain ⟨a, m, rfl, ha, hm, hA⟩ := r3.get hx
      obtain ⟨p, hp, rfl⟩ := nI_at hy
      obtain ⟨sm, cs, hcs, lc, hc⟩ := h
      have sT := same_new (o := .tup [.ref a, nI p]) hT
      have im := (List.getElem?_eq_some_iff.mp hm).1
      walk_at "go"
      refine g_gtup (SqT.of upd_same) rfl ?_
      walk_at "go"
      refine ⟨rfl, ?_⟩
      walk_at "go"
      refine ⟨a, p, l, m, rfl, list_same (sm.trans sT) hA, plc.2 i m p hm hp, ?_⟩
      refine ⟨cs.map nI, sT _ _ hcs, by rw [sizeLine_eq, List.length_map]; omega, Wd.Same.mut (sm.trans sT) hD, cs ++ [ix m l], by rw [upd_same, List.map_append]; rfl, by rw [List.length_append, lc]; rfl, fun j m' hj hm' => ?_⟩
      by_cases c : j < i
      · rw [List.getElem?_append_left (by omega)]; exact hc j m' c hm'
      · have : j = i := by omega
        subst this
        cases hm.symm.trans hm'
        rw [List.getElem?_append_right (by omega), lc, Nat.sub_self]; rfl
    obtain ⟨s4, cs, hcs, lc, hc⟩ := h
    rw [List.length_map, rp.len] at lc hc
    have hPBL : PB ≠ L := fun z => by rw [z, eL3] at hPB; cases hPB
    have s04 := s3.trans s4
    have r4 := rp.same s04
    have eL4 := s4 _ _ eL3
    have at_c : ∀ (i : Nat) (m : List Int), ms[i]? = some m → cs[i]? = some (ix m l) := fun i m hm => hc i m (List.getElem?_eq_some_iff.mp hm).1 hm
    walk_at "go"
    refine g_zip ?_
    walk_at "go"
    have lcs : (as.map V.ref).length = (cs.map nI).length := by rw [List.length_map, List.length_map, rp.len, lc]
    refine w_zip lcs (fun i σ H' => ∃ (d : Int) (v6 v7 : Option V), σ = [some (.int bt), some (.ref R), some (.int e), some (.ref L), some (.int l), some (.ref PB), v6, v7, some (.int d)] ∧ Same H4 H' ∧ due l ms (l + 1) = due l (ms.drop i) d ∧ l + 1 ≤ d ∧ d ≤ 1000000) ?_ ?_ ?_ ?_
    · exact ⟨l + 1, _, _, rfl, fun _ _ h => h, rfl, by omega, by omega⟩
    · rintro i σ H' ⟨d, v6, v7, _, sm, _⟩
      exact ⟨list_same sm r4.at_, list_same sm (SqL.of hcs)⟩
    · rintro i x y T σ H' hx hy ⟨d, v6, v7, rfl, sm, ed, d0, d1⟩ hT
      obtain ⟨a, m, rfl, ha, hm, hA⟩ := r4.get hx
      obtain ⟨p, hp, rfl⟩ := nI_at hy
      cases (at_c i m hm).symm.trans hp
      have sT := sm.trans (same_new (o := .tup [.ref a, nI (ix m l)]) hT)
      rw [dropI_at hm] at ed
      have hA' := list_same sT hA
      walk_at "go"
      refine g_gtup (SqT.of upd_same) rfl ?_
      walk_at "go"
      refine g_len (.inl hA') ?_
      walk_at "go"
      rw [List.length_map]
      refine g_ite (fun h1 => ?_) (fun h1 => ?_)
      · have no : m[ix m l]? = none := List.getElem?_eq_none (by omega)
        rw [due_no no] at ed
        have en : nx bt ms l = none := by unfold nx; rw [ed]; rfl
        rw [up_none en, List.append_nil] at er
        walk_at "go"
        exact q _ L (s04.trans sT) hL (by rw [← er]; exact sT _ _ eL4)
      · have hl := ix_le m l
        have hix : ix m l < m.length := by omega
        have hz : m[ix m l]? = some m[ix m l] := List.getElem?_eq_getElem hix
        have hzb := hb m (List.mem_of_getElem? hm) _ (List.mem_of_getElem? hz)
        generalize m[ix m l] = z at hz hzb
        rw [due_yes hz] at ed
        walk_at "go"
        refine g_ixL hA' (at_of (j := ix m l) (v := .int z) rfl (by rw [List.getElem?_map, hz]; rfl)) ?_
        walk_at "go"
        exact ⟨_, _, _, rfl, sT, ed, by split <;> omega, by split <;> omega⟩
    · rintro σ H5 ⟨d, v6, v7, rfl, sm, ed, d0, d1⟩
      rw [List.length_map, rp.len, List.drop_length] at ed
      have en : nx bt ms l = some ((d + bt - 1) / bt * bt) := by unfold nx; rw [ed]; rfl
      have ub := up_beat (d := d) ok.1
      have b1 := ok.1
      have b2 := ok.2
      have dv : (d + bt - 1) / bt ≤ d + bt - 1 := Int.ediv_le_self _ (by omega)
      have dv0 : 0 ≤ (d + bt - 1) / bt := Int.ediv_nonneg (by omega) (by omega)
      have s05 := s04.trans sm
      have eL5 := sm _ _ eL4
      walk_at "go"
      refine g_I (divW_small (by omega) (by omega)) ?_
      walk_at "go"
      refine g_I (mulW_small dv0 (by omega) (by omega) (by omega)) ?_
      generalize (d + bt - 1) / bt * bt = z at en ub ⊢
      walk_at "go"
      refine g_ite (fun h1 => ?_) (fun h1 => ?_)
      · rw [up_far en h1, List.append_nil] at er
        walk_at "go"
        exact q _ L s05 hL (by rw [← er]; exact eL5)
      · rw [up_pat en h1] at er
        walk_at "go"
        refine g_tyL eL5 ?_
        walk_at "go"
        refine g_append eL5 (by rw [List.length_map]; omega) ?_
        walk_at "go"
        refine ⟨PB, acc ++ [z], z, cs, _, _, _, rfl, Wd.Same.mut s05 hL, by rw [upd_same, List.map_append]; rfl, by rw [upd_ne hPBL]; exact sm _ _ hcs, hPBL, ⟨lc, fun i m p hm hp => ?_⟩, by omega, by omega, by rw [List.append_assoc]; exact er, by omega, by rw [List.length_append, List.length_singleton]; omega⟩
        cases (at_c i m hm).symm.trans hp
        exact ix_mono m (by omega)
end
end K12
namespace K12
open PySem PySem.Spec PyProof.Rows L2 Wd
section
variable {P : Program} {w : World} {K : PySem.W.Frag} {mg : Str → Option Value} {base : Heap} {CW CT : Addr}
abbrev s_found_at : Stmt := top 17
theorem sc_found_at : FnScope ["window", "beat", "reports", "end"] ["window", "beat", "reports", "end"] (C8.fnScope s_found_at) := C8.fnScope_by (by decide +kernel)
def sp_found_at (K : PySem.W.Frag) (CW CT : Addr) : Sp := fun vs H Q E => ∃ (W R : Addr) (lo hi bt e : Int) (as : List Addr) (ms : List (List Int)), vs = [.ref W, .int bt, .ref R, .int e] ∧ SqT K H W [.int lo, .int hi] ∧ (¬ okW lo hi → E (.ref CW) none H) ∧ (okW lo hi → ¬ okB bt → E (.ref CT) none H) ∧
  (okW lo hi → okB bt → Rep K H R as ms ∧ ms.length ≤ 1000 ∧ (∀ m ∈ ms, ∀ x ∈ m, x ≤ 1000000) ∧ 0 ≤ e ∧ e ≤ 90000 ∧ (∀ H', Same H H' → bite lo hi e (kp bt ms e) = none → Q .non H') ∧ ∀ m wd H' q, bite lo hi e (kp bt ms e) = some (m, wd) → Same H H' → H' q = some (.tup [.int m, .str wd]) → Q (.ref q) H')
theorem ok_found_at (T : TxtK K mg CW CT) {f : Addr} {fd : FuncData} (D : C8.Def K mg "found_at" s_found_at f fd) (b : Binds K fd ["window", "beat", "reports", "end"] []) (g_check_window : CalX P w K mg base 3 "check_window" (sp_check_window K CW))
    (g_keeper_pats : CalX P w K mg base 3 "keeper_pats" (sp_keeper_pats K CT)) (g_bitten_at : CalX P w K mg base 4 "bitten_at" (sp_bitten_at K CW)) : CalX P w K mg base 5 "found_at" (sp_found_at K CW CT) := by
  refine calX D b sc_found_at (fun vs H Q E h => ?_) fun cdv A outer s H vs Q E hr h => ?_
  · obtain ⟨W, R, lo, hi, bt, e, as, ms, rfl, _⟩ := h; rfl
  · obtain ⟨W, R, lo, hi, bt, e, as, ms, rfl, hW, q1, q2, q3⟩ := h
    have nd := sc_found_at.nd
    refine ⟨_, (pss_cons (ps_expr (pe_cX g_check_window hr (by first | decide | exact Nat.le_refl _ | omega) (by rfl) (fun σ => passAt (takes_of rfl rfl rfl rfl) σ) (pa_cons (pv 0) pa_nil)))
      (pss_one (ps_ret (pe_cX g_bitten_at hr (by first | decide | exact Nat.le_refl _ | omega) (by rfl) (fun σ => passAt (takes_of rfl rfl rfl rfl) σ) (pa_cons (pv 0) (pa_cons (pe_cX g_keeper_pats hr (by first | decide | exact Nat.le_refl _ | omega) (by rfl) (fun σ => passAt (takes_of rfl rfl rfl rfl) σ) (pa_cons (pv 1) (pa_cons (pv 2) (pa_cons (pv 3) pa_nil)))) (pa_cons (pv 3) pa_nil))))))), ?_⟩
    walk_at "go"
    refine ⟨W, lo, hi, rfl, hW, fun okw => ?_, fun bad => q1 bad⟩
    walk_at "go"
    refine ⟨bt, e, R, as, ms, rfl, fun bad => q2 okw bad, fun ok => ?_⟩
    obtain ⟨rp, hlen, hb, e0, e1, k1, k2⟩ := q3 okw ok
    refine ⟨rp, hlen, hb, e0, e1, fun H1 L s1 hL eL => ?_⟩
    walk_at "go"
    exact ⟨W, L, lo, hi, e, kp bt ms e, rfl, tup_same s1 hW, fun bad => (bad okw).elim, fun _ => ⟨SqL.of eL, fun H2 s2 hn => k1 H2 (s1.trans s2) hn, fun m wd H2 t hs s2 ht => k2 m wd H2 t hs (s1.trans s2) ht⟩⟩
end
end K12
namespace K12
open PySem PySem.Spec PyProof.Rows L2 Wd
/-- tasks in a list -/
structure TskL (S : Addr) (H : Hp) (L : Addr) (as : List Addr) : Prop where
  at_ : H L = some (.lst (as.map V.ref))
  nS : L ≠ S
  own : ∀ a ∈ as, a ≠ S ∧ ∃ lo hi : Int, H a = some (.tup [.int lo, .int hi]) ∧ 1 ≤ lo ∧ lo ≤ hi ∧ hi ≤ 1000
theorem TskL.frm {S : Addr} {H H' : Hp} {L : Addr} {as : List Addr} (t : TskL S H L as) (f : Frm S H H') : TskL S H' L as :=
  ⟨f _ _ t.nS t.at_, t.nS, fun a ha => by
    obtain ⟨n, lo, hi, h, r⟩ := t.own a ha
    exact ⟨n, lo, hi, f _ _ n h, r⟩⟩
/-- reports in a list: each list's address and its moments -/
structure RepL (S : Addr) (H : Hp) (R : Addr) (zs : List (Addr × List Int)) : Prop where
  at_ : H R = some (.lst (zs.map fun z => V.ref z.1))
  nS : R ≠ S
  own : ∀ z ∈ zs, H z.1 = some (.lst (z.2.map V.int)) ∧ z.1 ≠ S ∧ z.1 ≠ R
theorem RepL.frm {S : Addr} {H H' : Hp} {R : Addr} {zs : List (Addr × List Int)} (t : RepL S H R zs) (f : Frm S H H') : RepL S H' R zs :=
  ⟨f _ _ t.nS t.at_, t.nS, fun z hz => by
    obtain ⟨h, n, r⟩ := t.own z hz
    exact ⟨f _ _ n h, n, r⟩⟩
theorem RepL.rep {K : PySem.W.Frag} {S : Addr} {H : Hp} {R : Addr} {zs : List (Addr × List Int)} (t : RepL S H R zs) : Rep K H R (zs.map (·.1)) (zs.map (·.2)) := by
  refine ⟨SqL.of (by rw [List.map_map]; exact t.at_), by rw [List.length_map, List.length_map], fun i a m h1 h2 => ?_⟩
  rw [List.getElem?_map] at h1 h2
  cases hz : zs[i]? with
  | none => rw [hz] at h1; cases h1
  | some z =>
    rw [hz] at h1 h2
    cases h1
    cases h2
    exact SqL.of (t.own z (List.mem_of_getElem? hz)).1
/-- one more list of moments -/
theorem RepL.put {S : Addr} {H : Hp} {R M : Addr} {zs : List (Addr × List Int)} {m : List Int} (t : RepL S H R zs) (h : H M = some (.lst (m.map V.int))) (n : M ≠ S) (n2 : M ≠ R) : RepL S (upd H R (.lst ((zs.map fun z => V.ref z.1) ++ [.ref M]))) R (zs ++ [(M, m)]) := by
  refine ⟨by rw [upd_same, List.map_append]; rfl, t.nS, fun z hz => ?_⟩
  rw [List.mem_append, List.mem_singleton] at hz
  rcases hz with hz | rfl
  · obtain ⟨h1, h2, h3⟩ := t.own z hz
    exact ⟨by rw [upd_ne h3]; exact h1, h2, h3⟩
  · exact ⟨by rw [upd_ne n2]; exact h, n, n2⟩
/-- moments that rise, from 1 to B -/
def Ris (B : Int) (m : List Int) : Prop := m.Pairwise (· < ·) ∧ ∀ x ∈ m, 0 < x ∧ x ≤ B
def Good (B : Int) (zs : List (Addr × List Int)) : Prop := ∀ z ∈ zs, Ris B z.2
theorem Ris.snoc {B x : Int} {m : List Int} (r : Ris B m) (h : ∀ y ∈ m, y < x) (h0 : 0 < x) (h1 : x ≤ B) : Ris B (m ++ [x]) := by
  refine ⟨List.pairwise_append.mpr ⟨r.1, List.pairwise_singleton _ _, fun a ha b hb => ?_⟩, fun y hy => ?_⟩
  · rw [List.mem_singleton] at hb; subst hb; exact h a ha
  · rw [List.mem_append, List.mem_singleton] at hy
    rcases hy with hy | rfl
    · exact r.2 y hy
    · exact ⟨h0, h1⟩
section
variable {P : Program} {w : World} {K : PySem.W.Frag} {mg : Str → Option Value} {base : Heap} {CW CT : Addr}
abbrev s_law_tasks : Stmt := top 22
theorem sc_law_tasks : FnScope ["_law_state", "_law_most", "_law_gap", "_law_found", "_law_k", "_law_least"] ["_law_state", "_law_most", "_law_gap"] (C8.fnScope s_law_tasks) := C8.fnScope_by (by decide +kernel)
def sp_tasks (K : PySem.W.Frag) : Sp := fun vs H Q _ => ∃ (B : Hp) (S : Addr) (mo gap : Int), vs = [.ref S, .int mo, .int gap] ∧ Dst K B H S ∧ 1 ≤ mo ∧ mo ≤ 100 ∧ 1 ≤ gap ∧ gap ≤ 1000 ∧
  ∀ H' L as, Frm S H H' → Dst K B H' S → TskL S H' L as → (as.length : Int) ≤ mo → 0 < as.length → Q (.ref L) H'
theorem ok_tasks (T : TxtK K mg CW CT) {f : Addr} {fd : FuncData} (D : C8.Def K mg "_law_tasks" s_law_tasks f fd) (b : Binds K fd ["_law_state", "_law_most", "_law_gap"] []) (g_law_drawn : C8.Cal P w K mg base 1 "_law_drawn" (sp_drawn K) []) : C8.Cal P w K mg base 2 "_law_tasks" (sp_tasks K) [] := by
  refine C8.cal0 D b .nil sc_law_tasks (fun vs H Q E h => ?_) fun cdv A outer s H vs Q E hr h => ?_
  · obtain ⟨B, S, mo, gap, rfl, _⟩ := h; rfl
  · obtain ⟨B, S, mo, gap, rfl, d, m0, m1, g0, g1, q⟩ := h
    have nd := sc_law_tasks.nd
    refine ⟨_, (pss_cons (ps_set (i := 3) nd rfl (Or.inl rfl) (pe_lst pa_nil))
      (pss_cons (ps_for PassesOwn.never rfl (pi_range1 rfl T.n_range (pa_cons (pe_op op_add pe_int (C8.pe_c g_law_drawn hr (by first | decide | exact Nat.le_refl _ | omega) (by rfl) (pa_cons (pv 0) (pa_cons (pv 1) pa_nil)))) pa_nil)) (pg_name (i := 4) nd rfl (Or.inl rfl)) (pss_cons (ps_set (i := 5) nd rfl (Or.inl rfl) (pe_op op_add pe_int (C8.pe_c g_law_drawn hr (by first | decide | exact Nat.le_refl _ | omega) (by rfl) (pa_cons (pv 0) (pa_cons (pv 2) pa_nil)))))
      (pss_one (ps_expr (pe_bmK (K := K) rfl PySem.F.plainAttrs_list PySem.F.slot_list_append PySem.F.type_list_append mt_append (pv 3) (pa_cons (pe_tup (pa_cons (pv 5) (pa_cons (pe_op op_add (pv 5) (C8.pe_c g_law_drawn hr (by first | decide | exact Nat.le_refl _ | omega) (by rfl) (pa_cons (pv 0) (pa_cons (pe_op op_add (pe_op op_sub (pv 2) (pv 5)) pe_int) pa_nil)))) pa_nil))) pa_nil))))))
      (pss_one (ps_ret (pv 3))))), ?_⟩
    walk_at "go"
    intro L hL
    have d1 := d.same (same_new (o := .lst []) hL)
    have nL := d.ne hL
    have bL := d.fresh hL
    walk_at "go"
    refine use_drawn d1 (by omega) (by omega) fun H2 v f2 d2 v0 v1 => ?_
    walk_at "go"
    have eL : H2 L = some (.lst []) := f2 _ _ nL upd_same
    refine w_range (by omega) (by omega) (fun i σ H' => ∃ (v4 v5 : Option V) (as : List Addr), σ = [some (.ref S), some (.int mo), some (.int gap), some (.ref L), v4, v5] ∧ Frm S H H' ∧ Dst K B H' S ∧ TskL S H' L as ∧ as.length = i) ?_ ?_ ?_
    · exact ⟨_, _, [], rfl, (Frm.new hL).trans f2, d2, ⟨eL, nL, fun a ha => nomatch ha⟩, rfl⟩
    · rintro i σ H3 hi ⟨v4, v5, as, rfl, f3, d3, tk, la⟩
      walk_at "go"
      refine use_drawn d3 (by omega) (by omega) fun H4 x f4 d4 x0 x1 => ?_
      have tk4 := tk.frm f4
      walk_at "go"
      refine g_tyL tk4.at_ ?_
      walk_at "go"
      refine use_drawn d4 (by omega) (by omega) fun H5 y f5 d5 y0 y1 => ?_
      walk_at "go"
      intro t ht
      have st := same_new (o := .tup [.int (1 + x), .int (1 + x + y)]) ht
      have tk6 := (tk4.frm f5).frm (.of st)
      have nt := d5.ne ht
      walk_at "go"
      refine g_append tk6.at_ (by rw [List.length_map]; omega) ?_
      walk_at "go"
      have ntL : t ≠ L := (ne_of_none (tk4.frm f5).at_ ht).symm
      refine ⟨_, _, as ++ [t], rfl, Frm.mut (((f3.trans f4).trans f5).trans (.of st)) hL, (d5.same st).mut nL bL, ⟨by rw [upd_same, List.map_append]; rfl, nL, fun a ha => ?_⟩, by rw [List.length_append, la]; rfl⟩
      rw [List.mem_append, List.mem_singleton] at ha
      rcases ha with ha | rfl
      · obtain ⟨n, lo, hi, h, r⟩ := tk6.own a ha
        exact ⟨n, lo, hi, by rw [upd_ne (ne_of h tk6.at_ (fun z => nomatch z))]; exact h, r⟩
      · exact ⟨nt, _, _, by rw [upd_ne ntL]; exact upd_same, by omega, by omega, by omega⟩
    · rintro σ H3 ⟨v4, v5, as, rfl, f3, d3, tk, la⟩
      walk_at "go"
      exact q _ L as f3 d3 tk (by omega) (by omega)

abbrev s_law_reports : Stmt := top 23
theorem sc_law_reports : FnScope ["_law_state", "_law_tasks_here", "_law_end", "_law_found", "_law_least", "_law_most", "_law_moments", "_law_now"] ["_law_state", "_law_tasks_here", "_law_end"] (C8.fnScope s_law_reports) := C8.fnScope_by (by decide +kernel)
def sp_reports (K : PySem.W.Frag) : Sp := fun vs H Q _ => ∃ (B : Hp) (S L : Addr) (e : Int) (as : List Addr), vs = [.ref S, .ref L, .int e] ∧ Dst K B H S ∧ TskL S H L as ∧ as.length ≤ 100 ∧ 0 ≤ e ∧ e ≤ 10000 ∧
  ∀ H' R zs, Frm S H H' → Dst K B H' S → H R = none → RepL S H' R zs → Good e zs → zs.length = as.length → Q (.ref R) H'
def MInv (K : PySem.W.Frag) (B H1 : Hp) (S L F M : Addr) (e lo hi : Int) (v2 : Option V) (n : Nat) (σ : L2.St) (H' : Hp) : Prop := ∃ (acc : List Int) (now : Int), σ = [some (.ref S), some (.ref L), v2, some (.ref F), some (.int lo), some (.int hi), some (.ref M), some (.int now)] ∧ Frm S H1 H' ∧ Dst K B H' S ∧ H' M = some (.lst (acc.map V.int)) ∧
  Ris e acc ∧ (∀ x ∈ acc, x < now) ∧ 0 < now ∧ (e + 1 - now).toNat ≤ n ∧ (acc.length : Int) < now
theorem ok_reports (T : TxtK K mg CW CT) {f : Addr} {fd : FuncData} (D : C8.Def K mg "_law_reports" s_law_reports f fd) (b : Binds K fd ["_law_state", "_law_tasks_here", "_law_end"] []) (g_law_drawn : C8.Cal P w K mg base 1 "_law_drawn" (sp_drawn K) []) : C8.Cal P w K mg base 2 "_law_reports" (sp_reports K) [] := by
  refine C8.cal0 D b .nil sc_law_reports (fun vs H Q E h => ?_) fun cdv A outer s H vs Q E hr h => ?_
  · obtain ⟨B, S, L, e, as, rfl, _⟩ := h; rfl
  · obtain ⟨B, S, L, e, as, rfl, d, tk, la, e0, e1, q⟩ := h
    have nd := sc_law_reports.nd
    refine ⟨_, (pss_cons (ps_set (i := 3) nd rfl (Or.inl rfl) (pe_lst pa_nil))
      (pss_cons (ps_for PassesOwn.never rfl (pi_list (pv 1)) (pg_tup rfl (pgs_cons (pg_name (i := 4) nd rfl (Or.inl rfl)) (pgs_cons (pg_name (i := 5) nd rfl (Or.inl rfl)) pgs_nil))) (pss_cons (ps_set (i := 6) nd rfl (Or.inl rfl) (pe_lst pa_nil))
      (pss_cons (ps_set (i := 7) nd rfl (Or.inl rfl) (pe_op op_add (pv 4) (C8.pe_c g_law_drawn hr (by first | decide | exact Nat.le_refl _ | omega) (by rfl) (pa_cons (pv 0) (pa_cons (pe_op op_add (pe_op op_sub (pv 5) (pv 4)) pe_int) pa_nil)))))
      (pss_cons (ps_while PassesOwn.never (pt_cmpR op_le (pv 7) (pv 2) (nomark _)) (pss_cons (ps_expr (pe_bmK (K := K) rfl PySem.F.plainAttrs_list PySem.F.slot_list_append PySem.F.type_list_append mt_append (pv 6) (pa_cons (pv 7) pa_nil)))
      (pss_one (ps_set (i := 7) nd rfl (Or.inl rfl) (pe_op op_add (pe_op op_add (pv 7) (pv 4)) (C8.pe_c g_law_drawn hr (by first | decide | exact Nat.le_refl _ | omega) (by rfl) (pa_cons (pv 0) (pa_cons (pe_op op_add (pe_op op_sub (pv 5) (pv 4)) pe_int) pa_nil))))))))
      (pss_one (ps_expr (pe_bmK (K := K) rfl PySem.F.plainAttrs_list PySem.F.slot_list_append PySem.F.type_list_append mt_append (pv 3) (pa_cons (pv 6) pa_nil))))))))
      (pss_one (ps_ret (pv 3))))), ?_⟩
    walk_at "go"
    intro F hF
    have d1 := d.same (same_new (o := .lst []) hF)
    have nF := d.ne hF
    have bF := d.fresh hF
    have f1 : Frm S H _ := .new (o := .lst []) hF
    have eF := upd_same (H := H) (a := F) (o := .lst [])
    generalize upd H F (.lst []) = H1 at d1 f1 eF
    walk_at "go"
    refine w_list (xs := as.map V.ref) (fun i σ H' => ∃ (v4 v5 v6 v7 : Option V) (zs : List (Addr × List Int)), σ = [some (.ref S), some (.ref L), some (.int e), some (.ref F), v4, v5, v6, v7] ∧ Frm S H H' ∧ Dst K B H' S ∧ RepL S H' F zs ∧ Good e zs ∧ zs.length = i) ?_ ?_ ?_ ?_
    · exact ⟨_, _, _, _, [], rfl, f1, d1, ⟨eF, nF, fun a ha => nomatch ha⟩, (fun z hz => nomatch hz), rfl⟩
    · rintro i σ H' _ ⟨v4, v5, v6, v7, zs, rfl, f2, d2, _⟩
      exact SqL.of (tk.frm f2).at_
    · rintro i x σ H2 hx ⟨v4, v5, v6, v7, zs, rfl, f2, d2, rp, gd, lz⟩
      obtain ⟨a, ha, rfl⟩ : ∃ a, as[i]? = some a ∧ x = V.ref a := by
        rw [List.getElem?_map] at hx
        cases hq : as[i]? with
        | none => rw [hq] at hx; cases hx
        | some z => rw [hq] at hx; exact ⟨z, rfl, (Option.some.inj hx).symm⟩
      have il := (List.getElem?_eq_some_iff.mp ha).1
      obtain ⟨na, lo, hi, hT, l1, l2, l3⟩ := (tk.frm f2).own a (List.mem_of_getElem? ha)
      walk_at "go"
      refine g_gtup (SqT.of hT) rfl ?_
      walk_at "go"
      intro M hM
      have d3 := d2.same (same_new (o := .lst []) hM)
      have nM := d2.ne hM
      have bM := d2.fresh hM
      walk_at "go"
      refine use_drawn d3 (by omega) (by omega) fun H4 y f4 d4 y0 y1 => ?_
      walk_at "go"
      have eM : H4 M = some (.lst []) := f4 _ _ nM upd_same
      refine w_loop (MInv K B H2 S L F M e lo hi (some (.int e))) (e + 1 - (lo + y)).toNat ⟨[], lo + y, rfl, (Frm.new hM).trans f4, d4, eM, ⟨List.Pairwise.nil, fun x hx => nomatch hx⟩, (fun x hx => nomatch hx), by omega, Nat.le_refl _, by simp only [List.length_nil]; omega⟩ ?_
      rintro n σ H5 ⟨acc, now, rfl, f5, d5, eM5, ri, lt, n0, nn, al⟩
      walk_at "go"
      refine g_ite (fun hle => ?_) (fun hgt => ?_)
      · refine ⟨MInv K B H2 S L F M e lo hi (some (.int e)) (n - 1), fun σ' H' h => ⟨n - 1, by omega, h⟩, ?_⟩
        walk_at "go"
        refine g_tyL eM5 ?_
        walk_at "go"
        refine g_append eM5 (by rw [List.length_map]; omega) ?_
        walk_at "go"
        have d6 := d5.mut (o := .lst (acc.map V.int ++ [.int now])) nM bM
        refine use_drawn d6 (by omega) (by omega) fun H7 c f7 d7 c0 c1 => ?_
        walk_at "go"
        refine ⟨acc ++ [now], now + lo + c, rfl, (Frm.mut f5 hM).trans f7, d7, by rw [List.map_append]; exact f7 _ _ nM upd_same, ri.snoc lt n0 hle, fun x hx => ?_, by omega, by omega, by rw [List.length_append, List.length_singleton]; omega⟩
        rw [List.mem_append, List.mem_singleton] at hx
        rcases hx with hx | rfl
        · have := lt x hx; omega
        · omega
      · walk_at "go"
        have rp5 := rp.frm f5
        have nMF : M ≠ F := (ne_of_none rp.at_ hM).symm
        refine g_tyL rp5.at_ ?_
        walk_at "go"
        refine g_append rp5.at_ (by rw [List.length_map]; omega) ?_
        walk_at "go"
        refine ⟨_, _, _, _, zs ++ [(M, acc)], rfl, Frm.mut (f2.trans f5) hF, d5.mut nF bF, rp5.put eM5 nM nMF, fun z hz => ?_, by rw [List.length_append, lz]; rfl⟩
        rw [List.mem_append, List.mem_singleton] at hz
        rcases hz with hz | rfl
        · exact gd z hz
        · exact ri
    · rintro σ H' ⟨v4, v5, v6, v7, zs, rfl, f2, d2, rp, gd, lz⟩
      walk_at "go"
      exact q _ F zs f2 d2 hF rp gd (by rw [lz, List.length_map])
end
end K12
namespace K12
open PySem PySem.Spec PyProof.Rows L2 Wd
theorem w_lcRange2 {σ : L2.St} {H : Hp} {Q : VK} {g : TG} {tt : TT} {te : TE} {vs : List Nat} {lo n : Int} (h1 : -(2 ^ 62) ≤ lo ∧ lo < 2 ^ 62 ∧ -(2 ^ 62) ≤ n ∧ n < 2 ^ 62) (Pv : Addr → Nat → Hp → Prop) (h0 : ∀ D, H D = none → Pv D 0 (upd H D (.lst [])))
    (hs : ∀ D i H', H D = none → i < (n - lo).toNat → Pv D i H' → g (.int (lo + i)) (wipe σ vs) H' fun σ2 H2 => wipe σ2 vs = wipe σ vs ∧ tt σ2 H2 fun b H3 =>
      if b = true then te σ2 H3 fun y H4 => ∃ acc, H4 D = some (.lst acc) ∧ acc.length < sizeLine ∧ Pv D (i + 1) (upd H4 D (.lst (acc ++ [y]))) else Pv D (i + 1) H3) (hd : ∀ D H', H D = none → Pv D (n - lo).toNat H' → Q (.ref D) H') :
    ∃ i j : Int, [V.int lo, .int n] = [.int i, .int j] ∧ (-(2 ^ 62) ≤ i ∧ i < 2 ^ 62 ∧ -(2 ^ 62) ≤ j ∧ j < 2 ^ 62) ∧ LcEnd g tt te vs σ Q (Itr i (j - i).toNat) H :=
  ⟨lo, n, rfl, h1, fun D hD => lc_range (Pv D) (h0 D hD) (fun i H' hi p => hs D i H' hD hi p) (fun H' p => hd D H' hD p)⟩
theorem ris_len {B : Int} : ∀ {m : List Int} {a : Int}, m.Pairwise (· < ·) → (∀ x ∈ m, a < x ∧ x ≤ B) → a ≤ B → (m.length : Int) ≤ B - a
  | [], a, _, _, h => by simp only [List.length_nil]; omega
  | y :: ys, a, p, h, _ => by
    rw [List.pairwise_cons] at p
    have hy := h y List.mem_cons_self
    have := ris_len (m := ys) (a := y) p.2 (fun x hx => ⟨p.1 x hx, (h x (List.mem_cons_of_mem _ hx)).2⟩) hy.2
    rw [List.length_cons]
    omega
/-- the last number, or d -/
def lastD : List Int → Int → Int
  | [], d => d
  | x :: xs, _ => lastD xs x
theorem lastD_at : ∀ (m : List Int) (d : Int), ([V.int d] ++ m.map V.int)[([V.int d] ++ m.map V.int).length - 1]? = some (.int (lastD m d))
  | [], d => rfl
  | x :: xs, d => by
    have := lastD_at xs x
    simp only [List.cons_append, List.nil_append, List.map_cons, List.length_cons, List.length_map, Nat.add_sub_cancel] at this ⊢
    rw [List.getElem?_cons_succ]
    exact this
theorem lastD_ge : ∀ {m : List Int} {d : Int}, m.Pairwise (· < ·) → (∀ x ∈ m, d < x) → d ≤ lastD m d ∧ ∀ x ∈ m, x ≤ lastD m d
  | [], d, _, _ => ⟨Int.le_refl _, fun x hx => nomatch hx⟩
  | y :: ys, d, p, h => by
    rw [List.pairwise_cons] at p
    have ih := lastD_ge (m := ys) (d := y) p.2 p.1
    have := h y List.mem_cons_self
    refine ⟨by show d ≤ lastD ys y; omega, fun x hx => ?_⟩
    rw [List.mem_cons] at hx
    rcases hx with rfl | hx
    · exact ih.1
    · exact ih.2 x hx
theorem lastD_mem : ∀ (m : List Int) (d : Int), lastD m d = d ∨ lastD m d ∈ m
  | [], d => .inl rfl
  | y :: ys, d => by
    rcases lastD_mem ys y with h | h
    · right; show lastD ys y ∈ _; rw [h]; exact List.mem_cons_self
    · right; exact List.mem_cons_of_mem _ h
theorem cut_at {α : Type} (zs : List α) (f : α → V) (lo hi : Option Int) : ∃ ys : List α, cutV (zs.map f) lo hi = ys.map f ∧ ys.length ≤ zs.length ∧ ∀ y ∈ ys, y ∈ zs := by
  unfold cutV
  refine ⟨List.take _ (List.drop _ zs), by rw [List.map_take, List.map_drop], ?_, fun y hy => List.mem_of_mem_drop (List.mem_of_mem_take hy)⟩
  rw [List.length_take, List.length_drop]
  omega
theorem atI_back {xs : List V} {v : V} (h : xs[xs.length - 1]? = some v) : atI xs (-1) = some v := by
  have hl := (List.getElem?_eq_some_iff.mp h).1
  unfold atI ixN
  rw [if_neg (by decide), if_pos (by omega)]
  have e : (-1 + (xs.length : Int)).toNat = xs.length - 1 := by omega
  rw [e]
  exact h
section
variable {P : Program} {w : World} {K : PySem.W.Frag} {mg : Str → Option Value} {base : Heap} {CW CT : Addr}
abbrev s_law_any : Stmt := top 25
theorem sc_law_any : FnScope ["_law_state", "_law_end", "_law_often", "_law_now"] ["_law_state", "_law_end"] (C8.fnScope s_law_any) := C8.fnScope_by (by decide +kernel)
def sp_any (K : PySem.W.Frag) : Sp := fun vs H Q _ => ∃ (B : Hp) (S : Addr) (e : Int), vs = [.ref S, .int e] ∧ Dst K B H S ∧ 0 ≤ e ∧ e ≤ 10000 ∧
  ∀ H' L m, Frm S H H' → Dst K B H' S → H L = none → H' L = some (.lst (m.map V.int)) → Ris e m → Q (.ref L) H'
theorem ok_any (T : TxtK K mg CW CT) {f : Addr} {fd : FuncData} (D : C8.Def K mg "_law_any" s_law_any f fd) (b : Binds K fd ["_law_state", "_law_end"] []) (g_law_drawn : C8.Cal P w K mg base 1 "_law_drawn" (sp_drawn K) []) : C8.Cal P w K mg base 2 "_law_any" (sp_any K) [] := by
  refine C8.cal0 D b .nil sc_law_any (fun vs H Q E h => ?_) fun cdv A outer s H vs Q E hr h => ?_
  · obtain ⟨B, S, e, rfl, _⟩ := h; rfl
  · obtain ⟨B, S, e, rfl, d, e0, e1, q⟩ := h
    have nd := sc_law_any.nd
    refine ⟨_, (pss_cons (ps_set (i := 2) nd rfl (Or.inr rfl) (pe_op op_add pe_int (C8.pe_c g_law_drawn hr (by first | decide | exact Nat.le_refl _ | omega) (by rfl) (pa_cons (pv 0) (pa_cons pe_int pa_nil)))))
      (pss_one (ps_ret (pe_lc (own := [("_law_now", 3)]) (g := gName 3) rfl nd (pi_range2 rfl T.n_range (pa_cons pe_int (pa_cons (pe_op op_add (pv 1) pe_int) pa_nil))) (blkOk_by (N := ["_law_state", "_law_end", "_law_often", "_law_now"]) (sc := C8.fnScope s_law_any) (by decide +kernel)) (fun _ _ _ _ _ => pg_name (i := 3) nd rfl (Or.inl rfl)) (fun _ _ _ _ _ => pts_one (pt_cmpR op_eq (C8.pe_c g_law_drawn hr (by first | decide | exact Nat.le_refl _ | omega) (by rfl) (pa_cons (pv 0) (pa_cons (pv 2) pa_nil))) pe_int (nomark _))) (fun _ _ _ _ _ => (pv 3)))))), ?_⟩
    walk_at "go"
    refine use_drawn (n := 6) d (by decide) (by decide) fun H1 v f1 d1 v0 v1 => ?_
    walk_at "go"
    refine w_lcRange2 (by omega) (fun D i H' => Frm S H1 H' ∧ Dst K B H' S ∧ ∃ acc : List Int, H' D = some (.lst (acc.map V.int)) ∧ Ris i acc ∧ acc.length ≤ i) (fun D hD => ⟨.new hD, d1.same (same_new hD), [], upd_same, ⟨List.Pairwise.nil, fun x hx => nomatch hx⟩, Nat.le_refl _⟩) (fun D i H' hD hi h => ?_) (fun D H' hD h => ?_)
    · obtain ⟨f2, d2, acc, ea, ra, la⟩ := h
      walk_at "go"
      refine ⟨rfl, ?_⟩
      walk_at "go"
      refine use_drawn d2 (by omega) (by omega) fun H3 x f3 d3 x0 x1 => ?_
      have ea3 := f3 _ _ (d1.ne hD) ea
      have ra' : Ris (i + 1 : Nat) acc := ⟨ra.1, fun y hy => by have := ra.2 y hy; omega⟩
      walk_at "go"
      refine g_ite (fun hx => ?_) (fun hx => ?_)
      · walk_at "go"
        exact ⟨_, ea3, by rw [sizeLine_eq, List.length_map]; omega, Frm.mut (f2.trans f3) hD, d3.mut (d1.ne hD) (d1.fresh hD), acc ++ [1 + (i : Int)], by rw [upd_same, List.map_append]; rfl, ra'.snoc (fun y hy => by have := ra.2 y hy; omega) (by omega) (by omega), by rw [List.length_append, List.length_singleton]; omega⟩
      · exact ⟨f2.trans f3, d3, acc, ea3, ra', by omega⟩
    · obtain ⟨f2, d2, acc, ea, ra, la⟩ := h
      walk_at "go"
      exact q H' D acc (f1.trans f2) d2 (Frm.back f1 (d1.ne hD) hD) ea ⟨ra.1, fun y hy => by have := ra.2 y hy; omega⟩

abbrev s_law_hung : Stmt := top 24
theorem sc_law_hung : FnScope ["_law_state", "_law_reports_here", "_law_k", "_law_moment", "_law_moments", "_law_one"] ["_law_state", "_law_reports_here"] (C8.fnScope s_law_hung) := C8.fnScope_by (by decide +kernel)
def sp_hung (K : PySem.W.Frag) : Sp := fun vs H Q _ => ∃ (B : Hp) (S R : Addr) (zs : List (Addr × List Int)), vs = [.ref S, .ref R] ∧ Dst K B H S ∧ RepL S H R zs ∧ zs ≠ [] ∧ zs.length ≤ 200 ∧ Good 10000 zs ∧
  ∀ H' t R' zs' h k, Frm S H H' → Dst K B H' S → H' t = some (.tup [.ref R', .int h, .int k]) → RepL S H' R' zs' → Good 10000 zs' → zs'.length ≤ 500 → 0 ≤ h → h ≤ 59 → (∃ z ∈ zs', ∀ x ∈ z.2, x ≤ h) → Q (.ref t) H'
theorem ok_hung (T : TxtK K mg CW CT) {f : Addr} {fd : FuncData} (D : C8.Def K mg "_law_hung" s_law_hung f fd) (b : Binds K fd ["_law_state", "_law_reports_here"] []) (g_law_drawn : C8.Cal P w K mg base 1 "_law_drawn" (sp_drawn K) []) : C8.Cal P w K mg base 2 "_law_hung" (sp_hung K) [] := by
  refine C8.cal0 D b .nil sc_law_hung (fun vs H Q E h => ?_) fun cdv A outer s H vs Q E hr h => ?_
  · obtain ⟨B, S, R, zs, rfl, _⟩ := h; rfl
  · obtain ⟨B, S, R, zs, rfl, d, rp, ze, zl, gd, q⟩ := h
    have nd := sc_law_hung.nd
    have zp : 0 < zs.length := List.length_pos_iff.mpr ze
    refine ⟨_, (pss_cons (ps_set (i := 2) nd rfl (Or.inl rfl) (C8.pe_c g_law_drawn hr (by first | decide | exact Nat.le_refl _ | omega) (by rfl) (pa_cons (pv 0) (pa_cons (pe_callB (r := Wd.rLen K) call_len1 (by rfl) T.n_len PySem.boot_len (pa_cons (pv 1) pa_nil)) pa_nil))))
      (pss_cons (ps_set (i := 3) nd rfl (Or.inr rfl) (C8.pe_c g_law_drawn hr (by first | decide | exact Nat.le_refl _ | omega) (by rfl) (pa_cons (pv 0) (pa_cons pe_int pa_nil))))
      (pss_cons (ps_setLc (i := 4) (own := [("_law_one", 5)]) (g := gName 5) rfl nd rfl rfl (sw_true rfl rfl rfl (by decide +kernel)) (pi_list (pe_ix (r := rIxL K) ix_list (pv 1) (pv 2) (fun _ _ => rfl))) (blkOk_by (N := ["_law_state", "_law_reports_here", "_law_k", "_law_moment", "_law_moments", "_law_one"]) (sc := C8.fnScope s_law_hung) (by decide +kernel)) (fun _ _ _ _ _ => pg_name (i := 5) nd rfl (Or.inl rfl)) (fun _ _ _ _ _ => pts_one (pt_cmpR op_le (pv 5) (pv 3) (nomark _))) (fun _ _ _ _ _ => (pv 5)))
      (pss_one (ps_ret (pe_tup (pa_cons (pe_op op_cat (pe_op op_cat (pe_slice (r := rSlL K) sl_list (pv 1) po_none (po_some (pv 2))) (pe_lst (pa_cons (pv 4) pa_nil))) (pe_slice (r := rSlL K) sl_list (pv 1) (po_some (pe_op op_add (pv 2) pe_int)) po_none)) (pa_cons (pe_ix (r := rIxL K) ix_list (pe_op op_cat (pe_lst (pa_cons pe_int pa_nil)) (pv 4)) (pe_un un_neg pe_int) (fun _ _ => rfl)) (pa_cons (pv 2) pa_nil))))))))), ?_⟩
    walk_at "go"
    refine g_len (.inl (SqL.of rp.at_)) ?_
    walk_at "go"
    rw [List.length_map]
    refine use_drawn d (by omega) (by omega) fun H1 k f1 d1 k0 k1 => ?_
    walk_at "go"
    refine use_drawn (n := 60) d1 (by decide) (by decide) fun H2 mo f2 d2 mo0 mo1 => ?_
    have rp2 := (rp.frm f1).frm f2
    have f02 := f1.trans f2
    have kl : k.toNat < zs.length := by omega
    have hz : zs[k.toNat]? = some zs[k.toNat] := List.getElem?_eq_getElem kl
    have zm := List.getElem_mem kl
    generalize zs[k.toNat] = z at hz zm
    have zo := rp2.own z zm
    have zg := gd z zm
    walk_at "go"
    refine g_ixL (SqL.of rp2.at_) (at_of (j := k.toNat) (v := .ref z.1) (by omega) (by rw [List.getElem?_map, hz]; rfl)) ?_
    refine w_lcList (SqL.of zo.1) (fun D i H' => Same H2 H' ∧ H' D = some (.lst (((z.2.take i).filter fun x => decide (x ≤ mo)).map V.int))) (fun D hD => ⟨same_new hD, upd_same⟩) (fun D i H' hD _ h => SqL.of (h.1 _ _ zo.1)) (fun D i y H' hD hy h => ?_) (fun M H3 hM h => ?_)
    · obtain ⟨x, hx, rfl⟩ := map_at hy
      have ex : (z.2.take (i + 1)).filter (fun x => decide (x ≤ mo)) = (z.2.take i).filter (fun x => decide (x ≤ mo)) ++ (if x ≤ mo then [x] else []) := by
        rw [List.take_add_one, hx, List.filter_append]
        congr 1
        show List.filter (fun x => decide (x ≤ mo)) [x] = _
        by_cases c : x ≤ mo
        · simp [c]
        · simp [c]
      walk_at "go"
      refine ⟨rfl, ?_⟩
      walk_at "go"
      refine g_ite (fun c => ?_) (fun c => ?_)
      · rw [if_pos c] at ex
        walk_at "go"
        refine ⟨_, h.2, ?_, Wd.Same.mut h.1 hD, by rw [upd_same, ex, List.map_append]; rfl⟩
        rw [sizeLine_eq, List.length_map]
        have := List.length_filter_le (fun x => decide (x ≤ mo)) (z.2.take i)
        have := List.length_take_le i z.2
        have il := (List.getElem?_eq_some_iff.mp hx).1
        have := ris_len (a := 0) zg.1 zg.2 (by decide)
        omega
      · rw [if_neg c, List.append_nil] at ex
        exact ⟨h.1, by rw [ex]; exact h.2⟩
    obtain ⟨s3, eM⟩ := h
    rw [List.length_map, List.take_length] at eM
    have gm : Ris 10000 (z.2.filter fun x => decide (x ≤ mo)) ∧ ∀ x ∈ (z.2.filter fun x => decide (x ≤ mo)), x ≤ mo := by
      refine ⟨⟨zg.1.filter _, fun x hx => zg.2 x ((List.mem_filter.mp hx).1)⟩, fun x hx => ?_⟩
      rw [List.mem_filter] at hx
      exact of_decide_eq_true hx.2
    generalize (z.2.filter fun x => decide (x ≤ mo)) = m at eM gm
    obtain ⟨gm, hmo⟩ := gm
    have lm := ris_len (a := 0) gm.1 gm.2 (by decide)
    have lg := lastD_ge (d := 0) gm.1 (fun x hx => (gm.2 x hx).1)
    have lmem := lastD_mem m 0
    have l59 : lastD m 0 ≤ 59 := by
      rcases lmem with h | h
      · omega
      · have := hmo _ h; omega
    have rp3 := rp2.frm (.of s3)
    have d3 := d2.same s3
    have nM := d2.ne hM
    walk_at "go"
    refine g_slL (SqL.of rp3.at_) fun p1 hp1 => ?_
    obtain ⟨ys1, ey1, ly1, my1⟩ := cut_at zs (fun z => V.ref z.1) none (some k)
    rw [ey1]
    have s4 := same_new (o := .lst (ys1.map fun z => V.ref z.1)) hp1
    have e4 := upd_same (H := H3) (a := p1) (o := .lst (ys1.map fun z => V.ref z.1))
    generalize upd H3 p1 (.lst (ys1.map fun z => V.ref z.1)) = H4 at s4 e4
    walk_at "go"
    intro l hl
    have s5 := same_new (o := .lst [.ref M]) hl
    have e5 := upd_same (H := H4) (a := l) (o := .lst [.ref M])
    generalize upd H4 l (.lst [.ref M]) = H5 at s5 e5
    refine ⟨p1, l, _, _, rfl, rfl, s5 _ _ e4, e5, by rw [sizeLine_eq, List.length_map, List.length_singleton]; omega, fun p2 hp2 => ?_⟩
    have s6 := same_new (o := .lst ((ys1.map fun z => V.ref z.1) ++ [.ref M])) hp2
    have e6 := upd_same (H := H5) (a := p2) (o := .lst ((ys1.map fun z => V.ref z.1) ++ [.ref M]))
    generalize upd H5 p2 (.lst ((ys1.map fun z => V.ref z.1) ++ [.ref M])) = H6 at s6 e6
    have s36 := (s4.trans s5).trans s6
    walk_at "go"
    refine g_slL (SqL.of (s36 _ _ rp3.at_)) fun p3 hp3 => ?_
    obtain ⟨ys2, ey2, ly2, my2⟩ := cut_at zs (fun z => V.ref z.1) (some (k + 1)) none
    rw [ey2]
    have s7 := same_new (o := .lst (ys2.map fun z => V.ref z.1)) hp3
    have e7 := upd_same (H := H6) (a := p3) (o := .lst (ys2.map fun z => V.ref z.1))
    generalize upd H6 p3 (.lst (ys2.map fun z => V.ref z.1)) = H7 at s7 e7
    refine ⟨p2, p3, _, _, rfl, rfl, s7 _ _ e6, e7, by rw [sizeLine_eq, List.length_append, List.length_map, List.length_map, List.length_singleton]; omega, fun p4 hp4 => ?_⟩
    have s8 := same_new (o := .lst ((ys1.map fun z => V.ref z.1) ++ [.ref M] ++ ys2.map fun z => V.ref z.1)) hp4
    have e8 := upd_same (H := H7) (a := p4) (o := .lst ((ys1.map fun z => V.ref z.1) ++ [.ref M] ++ ys2.map fun z => V.ref z.1))
    generalize upd H7 p4 (.lst ((ys1.map fun z => V.ref z.1) ++ [.ref M] ++ ys2.map fun z => V.ref z.1)) = H8 at s8 e8
    have s37 := s36.trans s7
    walk_at "go"
    intro l2 hl2
    have s9 := same_new (o := .lst [.int 0]) hl2
    have e9 := upd_same (H := H8) (a := l2) (o := .lst [.int 0])
    generalize upd H8 l2 (.lst [.int 0]) = H9 at s9 e9
    have s39 := (s37.trans s8).trans s9
    walk_at "go"
    refine ⟨l2, M, [.int 0], m.map V.int, rfl, rfl, e9, s39 _ _ eM, by rw [sizeLine_eq, List.length_map, List.length_singleton]; omega, fun p5 hp5 => ?_⟩
    have s10 := same_new (o := .lst ([V.int 0] ++ m.map V.int)) hp5
    have e10 := upd_same (H := H9) (a := p5) (o := .lst ([V.int 0] ++ m.map V.int))
    generalize upd H9 p5 (.lst ([V.int 0] ++ m.map V.int)) = H10 at s10 e10
    walk_at "go"
    refine g_ixL (SqL.of e10) (atI_back (lastD_at m 0)) ?_
    walk_at "go"
    intro t ht
    have s11 := same_new (o := .tup [.ref p4, .int (lastD m 0), .int k]) ht
    have s8f := (s9.trans s10).trans s11
    have s3f := (s37.trans s8).trans s8f
    refine q _ t p4 (ys1 ++ [(M, m)] ++ ys2) (lastD m 0) k (f02.trans (.of (s3.trans s3f))) (d3.same s3f) upd_same ⟨?_, (d3.same s37).ne hp4, fun y hy => ?_⟩ (fun y hy => ?_) ?_ lg.1 l59 ⟨(M, m), ?_, lg.2⟩
    · rw [List.map_append, List.map_append]
      exact s8f _ _ e8
    · rw [List.append_assoc, List.mem_append, List.singleton_append, List.mem_cons] at hy
      have old : ∀ u ∈ zs, H3 u.1 = some (.lst (u.2.map V.int)) ∧ u.1 ≠ S := fun u hu => ⟨(rp3.own u hu).1, (rp3.own u hu).2.1⟩
      have key : ∀ u : Addr × List Int, H3 u.1 = some (.lst (u.2.map V.int)) → u.1 ≠ S → (upd H10 t (.tup [.ref p4, .int (lastD m 0), .int k])) u.1 = some (HO.lst (u.2.map V.int)) ∧ u.1 ≠ S ∧ u.1 ≠ p4 := fun u hu nu => ⟨s3f _ _ hu, nu, ne_of_none (s37 _ _ hu) hp4⟩
      rcases hy with hy | rfl | hy
      · exact key y (old y (my1 y hy)).1 (old y (my1 y hy)).2
      · exact key (M, m) eM nM
      · exact key y (old y (my2 y hy)).1 (old y (my2 y hy)).2
    · rw [List.append_assoc, List.mem_append, List.singleton_append, List.mem_cons] at hy
      rcases hy with hy | rfl | hy
      · exact gd y (my1 y hy)
      · exact gm
      · exact gd y (my2 y hy)
    · rw [List.length_append, List.length_append, List.length_singleton]; omega
    · rw [List.append_assoc, List.mem_append, List.singleton_append, List.mem_cons]
      exact .inr (.inl rfl)
end
end K12
namespace K12
open PySem PySem.Spec PyProof.Rows L2 Wd
/-! ### the keeper that waits for a task that hangs -/
theorem due_hang {l : Int} : ∀ {ms : List (List Int)} {d : Int} {m : List Int}, m ∈ ms → (∀ x ∈ m, x ≤ l) → due l ms d = none
  | [], _, _, h, _ => nomatch h
  | k :: ms, d, m, h, hx => by
    rw [List.mem_cons] at h
    cases e : k[ix k l]? with
    | none => exact due_no e
    | some x =>
      rw [due_yes e]
      rcases h with rfl | h
      · have := ix_at e; have := hx x (List.mem_of_getElem? e); omega
      · exact due_hang h hx
theorem nx_hang {b l h : Int} {ms : List (List Int)} (hh : ∃ m ∈ ms, ∀ x ∈ m, x ≤ h) (hl : h ≤ l) : nx b ms l = none := by
  obtain ⟨m, hm, hx⟩ := hh
  unfold nx
  rw [due_hang hm (fun x h' => by have := hx x h'; omega)]
  rfl
theorem up_stop {f : Int → Option Int} {e l : Int} (h : f l = none) : ∀ n, up f e n l = []
  | 0 => rfl
  | n + 1 => up_none h
section
variable {f : Int → Option Int} {lo hi h : Int} (hf : ∀ l q, f l = some q → l < q) (h0 : 0 ≤ hi)
include hf h0
theorem fb_gt {e : Int} : ∀ (n : Nat) (l : Int), l < (fb lo hi l (up f e n l)).1
  | 0, l => by show l < l + hi + 1; omega
  | n + 1, l => by
    cases hq : f l with
    | none => rw [up_none hq]; show l < l + hi + 1; omega
    | some q =>
      have := hf l q hq
      by_cases c : q > e
      · rw [up_far hq c]; show l < l + hi + 1; omega
      · rw [up_pat hq c]
        by_cases c1 : q > l + hi
        · rw [fb_late c1]; show l < l + hi + 1; omega
        · by_cases c2 : q < l + lo
          · rw [fb_early c1 c2]; exact this
          · rw [fb_next c1 c2]; have := fb_gt (e := e) n q; omega
theorem fb_bound (hh : ∀ l, h ≤ l → f l = none) {e : Int} : ∀ (n : Nat) (l : Int), l ≤ h → (fb lo hi l (up f e n l)).1 ≤ h + 2 * hi + 1
  | 0, l, hl => by show l + hi + 1 ≤ _; omega
  | n + 1, l, hl => by
    cases hq : f l with
    | none => rw [up_none hq]; show l + hi + 1 ≤ _; omega
    | some q =>
      have := hf l q hq
      by_cases c : q > e
      · rw [up_far hq c]; show l + hi + 1 ≤ _; omega
      · rw [up_pat hq c]
        by_cases c1 : q > l + hi
        · rw [fb_late c1]; show l + hi + 1 ≤ _; omega
        · by_cases c2 : q < l + lo
          · rw [fb_early c1 c2]; show q ≤ _; omega
          · rw [fb_next c1 c2]
            by_cases c3 : q ≤ h
            · exact fb_bound hh n q c3
            · rw [up_stop (hh q (by omega)) n]; show q + hi + 1 ≤ _; omega
theorem fb_cut {e e2 : Int} (he : e ≤ e2) : ∀ (n n2 : Nat) (l : Int), (e - l).toNat < n → (e2 - l).toNat < n2 →
    ((fb lo hi l (up f e2 n2 l)).1 ≤ e → fb lo hi l (up f e n l) = fb lo hi l (up f e2 n2 l)) ∧ (e < (fb lo hi l (up f e2 n2 l)).1 → e < (fb lo hi l (up f e n l)).1)
  | 0, _, _, h, _ => by omega
  | _ + 1, 0, _, _, h => by omega
  | n + 1, n2 + 1, l, h1, h2 => by
    cases hq : f l with
    | none => rw [up_none hq, up_none hq]; exact ⟨fun _ => rfl, fun h => h⟩
    | some q =>
      have lq := hf l q hq
      by_cases c2 : q > e2
      · rw [up_far hq c2, up_far hq (by omega)]; exact ⟨fun _ => rfl, fun h => h⟩
      · rw [up_pat hq c2]
        by_cases c : q > e
        · rw [up_far hq c]
          by_cases d1 : q > l + hi
          · rw [fb_late d1]; exact ⟨fun _ => rfl, fun h => h⟩
          · have a1 : e < (fb lo hi l []).1 := by show e < l + hi + 1; omega
            refine ⟨fun hc => ?_, fun _ => a1⟩
            by_cases d2 : q < l + lo
            · rw [fb_early d1 d2] at hc
              exact absurd (show q ≤ e from hc) (by omega)
            · rw [fb_next d1 d2] at hc
              have := fb_gt hf h0 (lo := lo) (e := e2) n2 q
              omega
        · rw [up_pat hq c]
          by_cases d1 : q > l + hi
          · rw [fb_late d1, fb_late d1]; exact ⟨fun _ => rfl, fun h => h⟩
          · by_cases d2 : q < l + lo
            · rw [fb_early d1 d2, fb_early d1 d2]; exact ⟨fun _ => rfl, fun h => h⟩
            · rw [fb_next d1 d2, fb_next d1 d2]
              exact fb_cut he n n2 q (by omega) (by omega)
omit h0 in
theorem few (hh : ∀ l, h ≤ l → f l = none) {e : Int} : ∀ (n : Nat) (l : Int), ((up f e n l).filter fun x => decide (x > h)).length ≤ 1
  | 0, l => Nat.zero_le _
  | n + 1, l => by
    cases hq : f l with
    | none => rw [up_none hq]; exact Nat.zero_le _
    | some q =>
      by_cases c : q > e
      · rw [up_far hq c]; exact Nat.zero_le _
      · rw [up_pat hq c]
        by_cases c3 : q > h
        · rw [up_stop (hh q (by omega)) n]
          exact List.length_filter_le _ _
        · rw [List.filter_cons_of_neg (by simpa using c3)]
          exact few hh n q
end
theorem bite_some {lo hi e : Int} {ps : List Int} (h : (fb lo hi 0 ps).1 ≤ e) : bite lo hi e ps = some (fb lo hi 0 ps) := if_neg (by omega)
theorem bite_none {lo hi e : Int} {ps : List Int} (h : e < (fb lo hi 0 ps).1) : bite lo hi e ps = none := if_pos h
theorem fb_word {lo hi : Int} : ∀ (ps : List Int) (l : Int), (fb lo hi l ps).2 = ("late" : Str) ∨ (fb lo hi l ps).2 = ("early" : Str)
  | [], l => .inl rfl
  | p :: ps, l => by
    by_cases c1 : p > l + hi
    · rw [fb_late c1]; exact .inl rfl
    · by_cases c2 : p < l + lo
      · rw [fb_early c1 c2]; exact .inr rfl
      · rw [fb_next c1 c2]; exact fb_word ps p
/-- all of promise 12 over one hall -/
theorem hang {lo hi b h en : Int} {ms : List (List Int)} (b1 : 1 ≤ b) (h0 : 0 ≤ hi) (hh0 : 0 ≤ h) (hh : ∃ m ∈ ms, ∀ x ∈ m, x ≤ h) (hen : h + 2 * hi + 1 ≤ en) : ∃ m wd, bite lo hi (h + 2 * hi + 1) (kp b ms (h + 2 * hi + 1)) = some (m, wd) ∧ (wd = ("late" : Str) ∨ wd = ("early" : Str)) ∧ 1 ≤ m ∧ m ≤ h + 2 * hi + 1 ∧ bite lo hi en (kp b ms en) = some (m, wd) ∧ bite lo hi (m - 1) (kp b ms (m - 1)) = none ∧
    ((kp b ms en).filter fun x => decide (x > h)).length ≤ 1 := by
  have hf : ∀ l q, nx b ms l = some q → l < q := fun l q e => nx_gt b1 e
  have hs : ∀ l, h ≤ l → nx b ms l = none := fun l hl => nx_hang hh hl
  have a1 := fb_bound (lo := lo) hf h0 hs (e := h + 2 * hi + 1) ((h + 2 * hi + 1).toNat + 1) 0 hh0
  have a2 := fb_bound (lo := lo) hf h0 hs (e := en) (en.toNat + 1) 0 hh0
  have a3 := fb_gt (lo := lo) hf h0 (e := h + 2 * hi + 1) ((h + 2 * hi + 1).toNat + 1) 0
  have c1 := (fb_cut (lo := lo) hf h0 hen ((h + 2 * hi + 1).toNat + 1) (en.toNat + 1) 0 (by omega) (by omega)).1 a2
  have a1' : (fb lo hi 0 (kp b ms (h + 2 * hi + 1))).1 ≤ h + 2 * hi + 1 := a1
  have c1' : fb lo hi 0 (kp b ms (h + 2 * hi + 1)) = fb lo hi 0 (kp b ms en) := c1
  have a3' : 0 < (fb lo hi 0 (kp b ms (h + 2 * hi + 1))).1 := a3
  refine ⟨(fb lo hi 0 (kp b ms (h + 2 * hi + 1))).1, (fb lo hi 0 (kp b ms (h + 2 * hi + 1))).2, bite_some a1', fb_word _ _, by omega, a1', ?_, bite_none ?_, few hf hs _ _⟩
  · rw [c1']
    exact bite_some (by rw [← c1']; omega)
  · have hle : (fb lo hi 0 (kp b ms (h + 2 * hi + 1))).1 - 1 ≤ h + 2 * hi + 1 := by omega
    exact (fb_cut (lo := lo) hf h0 hle (((fb lo hi 0 (kp b ms (h + 2 * hi + 1))).1 - 1).toNat + 1) ((h + 2 * hi + 1).toNat + 1) 0 (by omega) (by omega)).2 (show _ < (fb lo hi 0 (kp b ms (h + 2 * hi + 1))).1 by omega)
end K12
namespace K12
open PySem PySem.Spec PyProof.Rows L2 Wd
local macro_rules | `(tactic| walk_at "gs") => `(tactic| repeat (first
  | with_reducible refine Wd.g_seq ?_
  | with_reducible refine Wd.g_nx ?_
  | with_reducible refine Wd.g_asg ?_
  | ((with_reducible refine' Wd.g_var ?h1 ?_); (case h1 => exact rfl))
  | with_reducible refine Wd.g_c ?_
  | with_reducible refine Wd.g_op ?_
  | with_reducible refine Wd.g_un ?_
  | with_reducible refine Wd.g_I0 ?_
  | with_reducible refine Wd.g_U ?_
  | with_reducible refine Wd.g_eqI ?_
  | with_reducible refine Wd.g_neI ?_
  | with_reducible refine Wd.g_eqS ?_
  | with_reducible refine Wd.g_neS ?_
  | with_reducible refine Wd.g_eqB ?_
  | with_reducible refine Wd.g_neB ?_
  | with_reducible refine Wd.g_isN ?_
  | with_reducible refine Wd.g_notN ?_
  | with_reducible refine Wd.g_lc ?_
  | with_reducible refine Wd.g_yes ?_
  | with_reducible refine Wd.g_test ?_
  | with_reducible refine Wd.g_tB ?_
  | with_reducible refine Wd.g_bl ?_
  | with_reducible refine Wd.g_blI ?_
  | with_reducible refine Wd.g_and ?_
  | with_reducible refine Wd.g_or ?_
  | with_reducible refine Wd.g_not ?_
  | with_reducible refine Wd.g_andV ?_
  | with_reducible refine Wd.g_orV ?_
  | with_reducible refine Wd.g_notV ?_
  | with_reducible refine Wd.g_if ?_
  | with_reducible refine Wd.g_chain ?_
  | with_reducible refine Wd.g_chain3 ?_
  | with_reducible refine Wd.g_nil ?_
  | with_reducible refine Wd.g_cons ?_
  | with_reducible refine Wd.g_tup ?_
  | with_reducible refine Wd.g_lst ?_
  | with_reducible refine Wd.g_CB ?_
  | with_reducible refine Wd.g_call ?_
  | with_reducible refine Wd.g_callS ?_
  | with_reducible refine Wd.g_bm ?_
  | with_reducible refine Wd.g_bm0 ?_
  | with_reducible refine Wd.g_sl ?_
  | with_reducible refine Wd.g_part ?_
  | with_reducible refine Wd.g_part1 ?_
  | with_reducible refine Wd.g_noPart ?_
  | with_reducible refine Wd.g_next ?_
  | with_reducible refine Wd.g_name ?_
  | with_reducible refine Wd.g_sub ?_
  | with_reducible refine Wd.g_gnil ?_
  | with_reducible refine Wd.g_gcons ?_
  | with_reducible refine Wd.g_drop ?_
  | with_reducible refine Wd.g_ret ?_
  | with_reducible refine Wd.g_retN ?_
  | with_reducible refine Wd.g_brk ?_
  | with_reducible refine Wd.g_cont ?_
  | with_reducible refine Wd.g_bk ?_
  | with_reducible refine Wd.g_ct ?_
  | with_reducible refine Wd.g_rt ?_
  | with_reducible refine Wd.g_for ?_
  | with_reducible refine Wd.g_rng1 ?_
  | with_reducible refine Wd.g_rng2 ?_
  | with_reducible refine Wd.g_iList ?_
  | with_reducible refine Wd.g_iTup ?_
  | ((with_reducible refine Wd.g_fit ?h1 ?_); (case h1 => exact rfl))
  | with_reducible refine Wd.g_max2 ?_
  | with_reducible refine Wd.g_min2 ?_
  | with_reducible refine Wd.g_int1B ?_
  | with_reducible refine L2.iteT ?_
  | with_reducible refine L2.iteF ?_
  | ((with_reducible refine Wd.g_itT ?h1 ?_); (case h1 => exact rfl))
  | ((with_reducible refine Wd.g_itF ?h1 ?_); (case h1 => exact rfl))))
theorem g_join {t : TT} {a b : TS} {σ : L2.St} {H : Hp} {N : L2.St → Hp → Prop} {rt : VK} {bk ct : L2.St → Hp → Prop} (P : L2.St → Hp → Prop) (key : ∀ σ H, P σ H → N σ H) (h : ∀ N' : L2.St → Hp → Prop, (∀ σ H, P σ H → N' σ H) → tIfS t a b ⟨N', rt, bk, ct⟩ σ H) : tIfS t a b ⟨N, rt, bk, ct⟩ σ H := h N key
theorem shaped_bite (m : Int) {wd : Str} (h : wd = ("late" : Str) ∨ wd = ("early" : Str)) : SeqAt.shaped (.tuple [.int m, .str wd]) = true := by
  have ok : PyData.strOk wd = true := by rcases h with rfl | rfl <;> decide +kernel
  simp [SeqAt.shaped, PyData.canLay0, PyData.canLayAll0, PyData.depth, PyData.depthAll, ok]
theorem eqv_bite (m : Int) (wd : Str) : PyData.eqv (.tuple [.int m, .str wd]) (.tuple [.int m, .str wd]) = true := by
  simp [PyData.eqv, PyData.eqvAll]
theorem Good.mono {B C : Int} {zs : List (Addr × List Int)} (g : Good B zs) (h : B ≤ C) : Good C zs := fun z hz => ⟨(g z hz).1, fun x hx => by have := (g z hz).2 x hx; omega⟩
theorem Good.le {zs : List (Addr × List Int)} (g : Good 10000 zs) : ∀ m ∈ zs.map (·.2), ∀ x ∈ m, x ≤ 1000000 := fun m hm x hx => by
  obtain ⟨z, hz, rfl⟩ := List.mem_map.mp hm
  have := (g z hz).2 x hx
  omega
section
variable {P : Program} {w : World} {K : PySem.W.Frag} {mg : Str → Option Value} {base : Heap} {CW CT : Addr}
theorem use_found {W R : Addr} {lo hi bt e m : Int} {wd : Str} {zs : List (Addr × List Int)} {H : Hp} {Q : VK} {E : XK} {S : Addr} (hW : H W = some (.tup [.int lo, .int hi])) (okw : okW lo hi) (okb : okB bt) (rp : RepL S H R zs) (gd : Good 10000 zs) (ln : zs.length ≤ 500) (e0 : 0 ≤ e) (e1 : e ≤ 90000)
    (hb : bite lo hi e (kp bt (zs.map (·.2)) e) = some (m, wd)) (k : ∀ H' q, Same H H' → H' q = some (.tup [.int m, .str wd]) → Q (.ref q) H') : sp_found_at K CW CT [.ref W, .int bt, .ref R, .int e] H Q E :=
  ⟨W, R, lo, hi, bt, e, _, _, rfl, SqT.of hW, fun b => (b okw).elim, fun _ b => (b okb).elim, fun _ _ => ⟨rp.rep, by rw [List.length_map]; omega, gd.le, e0, e1, fun H' _ hn => (by rw [hb] at hn; cases hn), fun m' wd' H' q hs s hq => (by rw [hb] at hs; cases hs; exact k H' q s hq)⟩⟩
theorem use_found_no {W R : Addr} {lo hi bt e : Int} {zs : List (Addr × List Int)} {H : Hp} {Q : VK} {E : XK} {S : Addr} (hW : H W = some (.tup [.int lo, .int hi])) (okw : okW lo hi) (okb : okB bt) (rp : RepL S H R zs) (gd : Good 10000 zs) (ln : zs.length ≤ 500) (e0 : 0 ≤ e) (e1 : e ≤ 90000)
    (hb : bite lo hi e (kp bt (zs.map (·.2)) e) = none) (k : ∀ H', Same H H' → Q .non H') : sp_found_at K CW CT [.ref W, .int bt, .ref R, .int e] H Q E :=
  ⟨W, R, lo, hi, bt, e, _, _, rfl, SqT.of hW, fun b => (b okw).elim, fun _ b => (b okb).elim, fun _ _ => ⟨rp.rep, by rw [List.length_map]; omega, gd.le, e0, e1, fun H' s _ => k H' s, fun m' wd' H' q hs s hq => (by rw [hb] at hs; cases hs)⟩⟩
abbrev s_law : Stmt := top 26
theorem sc_law : FnScope ["_law_script", "_law_state", "_law_turn", "_law_window_here", "_law_beat", "_law_end", "_law_reports_here", "_law_moments", "_law_hung_here", "_law_k", "_law_latest", "_law_bite", "_law_pat"] ["_law_script"] (C8.fnScope s_law) := C8.fnScope_by (by decide +kernel)
def sp_law (K : PySem.W.Frag) : Sp := fun vs H Q _ => ∃ (sc : Addr) (ns : List Int), vs = [.ref sc] ∧ SqL K H sc (ns.map V.int) ∧ ns.length ≤ 63 ∧ ∀ H', Q (.bl true) H'
theorem ok_law (T : TxtK K mg CW CT) {f : Addr} {fd : FuncData} (D : C8.Def K mg "law" s_law f fd)
    (g_law_start : C8.Cal P w K mg base 1 "_law_start" (sp_start K) []) (g_law_drawn : C8.Cal P w K mg base 1 "_law_drawn" (sp_drawn K) []) (g_law_window : C8.Cal P w K mg base 2 "_law_window" (sp_window K) [])
    (g_law_tasks : C8.Cal P w K mg base 2 "_law_tasks" (sp_tasks K) []) (g_law_reports : C8.Cal P w K mg base 2 "_law_reports" (sp_reports K) []) (g_law_any : C8.Cal P w K mg base 2 "_law_any" (sp_any K) []) (g_law_hung : C8.Cal P w K mg base 2 "_law_hung" (sp_hung K) [])
    (g_found_at : CalX P w K mg base 5 "found_at" (sp_found_at K CW CT)) (g_keeper_pats : CalX P w K mg base 3 "keeper_pats" (sp_keeper_pats K CT)) :
    FnOk P w K mg base C8.CX0 6 f fd ["_law_script"] (sp_law K) := by
  refine C8.fn0 D.fn sc_law (fun vs H Q E h => ?_) fun cdv A outer s H vs Q E hr h => ?_
  · obtain ⟨sc, ns, rfl, _⟩ := h; rfl
  · obtain ⟨sc, ns, rfl, hsc, hl, q⟩ := h
    have nd := sc_law.nd
    refine ⟨_, (pss_cons (ps_set (i := 1) nd rfl (Or.inr rfl) (C8.pe_c g_law_start hr (by first | decide | exact Nat.le_refl _ | omega) (by rfl) (pa_cons (pv 0) pa_nil)))
      (pss_cons (ps_for PassesOwn.never rfl (pi_range1 rfl T.n_range (pa_cons pe_int pa_nil)) (pg_name (i := 2) nd rfl (Or.inl rfl)) (pss_cons (ps_set (i := 3) nd rfl (Or.inl rfl) (C8.pe_c g_law_window hr (by first | decide | exact Nat.le_refl _ | omega) (by rfl) (pa_cons (pv 1) (pa_cons pe_int pa_nil))))
      (pss_cons (ps_set (i := 4) nd rfl (Or.inl rfl) (pe_op op_add pe_int (C8.pe_c g_law_drawn hr (by first | decide | exact Nat.le_refl _ | omega) (by rfl) (pa_cons (pv 1) (pa_cons (pe_ix (r := rIxL K) ix_list (pe_lst (pa_cons pe_int (pa_cons pe_int (pa_cons pe_int pa_nil)))) (C8.pe_c g_law_drawn hr (by first | decide | exact Nat.le_refl _ | omega) (by rfl) (pa_cons (pv 1) (pa_cons pe_int pa_nil))) (fun _ _ => rfl)) pa_nil)))))
      (pss_cons (ps_set (i := 5) nd rfl (Or.inr rfl) (pe_op op_add (pe_op op_add pe_int (pe_op op_mulW pe_int (pe_ix (r := rIxT K) ix_tup (pv 3) pe_int (fun _ _ => rfl)))) pe_int))
      (pss_cons (ps_set (i := 6) nd rfl (Or.inl rfl) (C8.pe_c g_law_reports hr (by first | decide | exact Nat.le_refl _ | omega) (by rfl) (pa_cons (pv 1) (pa_cons (C8.pe_c g_law_tasks hr (by first | decide | exact Nat.le_refl _ | omega) (by rfl) (pa_cons (pv 1) (pa_cons pe_int (pa_cons pe_int pa_nil)))) (pa_cons (pv 5) pa_nil)))))
      (pss_cons (ps_if (pt_cmpR op_eq (C8.pe_c g_law_drawn hr (by first | decide | exact Nat.le_refl _ | omega) (by rfl) (pa_cons (pv 1) (pa_cons pe_int pa_nil))) pe_int (nomark _)) (pss_one (ps_setLc (i := 6) (own := [("_law_moments", 7)]) (g := gName 7) (tt := tYes) rfl nd rfl rfl (sw_true rfl rfl rfl (by decide +kernel)) (pi_list (pv 6)) (blkOk_by (N := ["_law_script", "_law_state", "_law_turn", "_law_window_here", "_law_beat", "_law_end", "_law_reports_here", "_law_moments", "_law_hung_here", "_law_k", "_law_latest", "_law_bite", "_law_pat"]) (sc := C8.fnScope s_law) (by decide +kernel)) (fun _ _ _ _ _ => pg_name (i := 7) nd rfl (Or.inl rfl)) (fun _ _ _ _ _ => pts_nil) (fun _ _ _ _ _ => (C8.pe_c g_law_any hr (by first | decide | exact Nat.le_refl _ | omega) (by rfl) (pa_cons (pv 1) (pa_cons (pv 5) pa_nil)))))) pss_nil)
      (pss_cons (ps_asg (C8.pe_c g_law_hung hr (by first | decide | exact Nat.le_refl _ | omega) (by rfl) (pa_cons (pv 1) (pa_cons (pv 6) pa_nil))) (pg_tup rfl (pgs_cons (pg_name (i := 6) nd rfl (Or.inl rfl)) (pgs_cons (pg_name (i := 8) nd rfl (Or.inr rfl)) (pgs_cons (pg_name (i := 9) nd rfl (Or.inl rfl)) pgs_nil)))))
      (pss_cons (ps_set (i := 10) nd rfl (Or.inl rfl) (pe_op op_add (pe_op op_add (pv 8) (pe_op op_mulW pe_int (pe_ix (r := rIxT K) ix_tup (pv 3) pe_int (fun _ _ => rfl)))) pe_int))
      (pss_cons (ps_set (i := 11) nd rfl (Or.inl rfl) (pe_cX g_found_at hr (by first | decide | exact Nat.le_refl _ | omega) (by rfl) (fun σ => passAt (W := fun _ _ _ _ => False) LamX.takes0 σ) (pa_cons (pv 3) (pa_cons (pv 4) (pa_cons (pv 6) (pa_cons (pv 10) pa_nil))))))
      (pss_cons (ps_if (PW.pt (pw_or (pt_cmpR op_isN1 (pv 11) pe_non (nomark _)) (pw_or (pt_cmpR op_gt (pe_ix (r := rIxT K) ix_tup (pv 11) pe_int (fun _ _ => rfl)) (pv 10) (nomark _)) (pw_or1 (pt_cmpR (r := rNeD K) (op_neD hr.units) (pv 11) (pe_cX g_found_at hr (by first | decide | exact Nat.le_refl _ | omega) (by rfl) (fun σ => passAt (W := fun _ _ _ _ => False) LamX.takes0 σ) (pa_cons (pv 3) (pa_cons (pv 4) (pa_cons (pv 6) (pa_cons (pv 5) pa_nil))))) (nomark _)))))) (pss_one (ps_ret pe_bl)) pss_nil)
      (pss_cons (ps_if (pt_cmpR op_notN1 (pe_cX g_found_at hr (by first | decide | exact Nat.le_refl _ | omega) (by rfl) (fun σ => passAt (W := fun _ _ _ _ => False) LamX.takes0 σ) (pa_cons (pv 3) (pa_cons (pv 4) (pa_cons (pv 6) (pa_cons (pe_op op_sub (pe_ix (r := rIxT K) ix_tup (pv 11) pe_int (fun _ _ => rfl)) pe_int) pa_nil))))) pe_non (nomark _)) (pss_one (ps_ret pe_bl)) pss_nil)
      (pss_one (ps_if (pt_cmpR op_gt (pe_callB (r := Wd.rLen K) call_len1 (by rfl) T.n_len PySem.boot_len (pa_cons (pe_lc (own := [("_law_pat", 12)]) (g := gName 12) rfl nd (pi_list (pe_cX g_keeper_pats hr (by first | decide | exact Nat.le_refl _ | omega) (by rfl) (fun σ => passAt (W := fun _ _ _ _ => False) LamX.takes0 σ) (pa_cons (pv 4) (pa_cons (pv 6) (pa_cons (pv 5) pa_nil))))) (blkOk_by (N := ["_law_script", "_law_state", "_law_turn", "_law_window_here", "_law_beat", "_law_end", "_law_reports_here", "_law_moments", "_law_hung_here", "_law_k", "_law_latest", "_law_bite", "_law_pat"]) (sc := C8.fnScope s_law) (by decide +kernel)) (fun _ _ _ _ _ => pg_name (i := 12) nd rfl (Or.inl rfl)) (fun _ _ _ _ _ => pts_one (pt_cmpR op_gt (pv 12) (pv 8) (nomark _))) (fun _ _ _ _ _ => (pv 12))) pa_nil)) pe_int (nomark _)) (pss_one (ps_ret pe_bl)) pss_nil)))))))))))))
      (pss_one (ps_ret pe_bl)))), ?_⟩
    walk_at "go"
    refine ⟨noT H, sc, ns, rfl, noT_list hsc, noT_same H, hl, fun H1 S nS s1 d1 => ?_⟩
    walk_at "go"
    refine w_range (by decide) (by decide) (fun i σ H' => ∃ v2 v3 v4 v5 v6 v7 v8 v9 v10 v11 v12 : Option V, σ = [some (.ref sc), some (.ref S), v2, v3, v4, v5, v6, v7, v8, v9, v10, v11, v12] ∧ Dst K (noT H) H' S) ?_ ?_ ?_
    · exact ⟨_, _, _, _, _, _, _, _, _, _, _, rfl, d1⟩
    · clear d1
      rintro i σ H0 hi' ⟨v2, v3, v4, v5, v6, v7, v8, v9, v10, v11, v12, rfl, d⟩
      walk_at "go"
      refine ⟨_, S, 40, rfl, d, by decide, by decide, fun H2 W lo hi f2 d2 hW nW l0 l1 l2 => ?_⟩
      walk_at "go"
      intro l hl
      have d3 := d2.same (same_new (o := .lst [.int 4, .int 12, .int 60]) hl)
      have hW3 := same_new (o := .lst [.int 4, .int 12, .int 60]) hl _ _ hW
      have e3 := upd_same (H := H2) (a := l) (o := .lst [.int 4, .int 12, .int 60])
      have nl := d2.ne hl
      generalize upd H2 l (.lst [.int 4, .int 12, .int 60]) = H3 at d3 hW3 e3
      walk_at "go"
      refine use_drawn (n := 3) d3 (by decide) (by decide) fun H4 v f4 d4 v0 v1 => ?_
      have e4 := f4 _ _ nl e3
      have hW4 := f4 _ _ nW hW3
      obtain ⟨x, hx, hx2⟩ := atI_mem (xs := [.int 4, .int 12, .int 60]) v0 v1
      refine g_ixL (SqL.of e4) hx2 ?_
      obtain ⟨z, rfl, z0, z1⟩ : ∃ z, x = V.int z ∧ 0 < z ∧ z ≤ 60 := by
        simp only [List.mem_cons, List.not_mem_nil, or_false] at hx
        rcases hx with rfl | rfl | rfl <;> exact ⟨_, rfl, by decide, by decide⟩
      walk_at "go"
      refine use_drawn d4 z0 (by omega) fun H5 bt f5 d5 bt0 bt1 => ?_
      have hW5 := f5 _ _ nW hW4
      have okb : okB (1 + bt) := ⟨by omega, by omega⟩
      have okw : okW lo hi := ⟨l0, l1, by omega⟩
      walk_at "go"
      refine g_ixT (SqT.of hW5) rfl ?_
      refine g_I (mulW_small (by decide) (by decide) (by omega) (by omega)) ?_
      walk_at "go"
      refine ⟨_, S, 4, 12, rfl, d5, by decide, by decide, by decide, by decide, fun H6 L as f6 d6 tk la lp => ?_⟩
      walk_at "go"
      refine ⟨_, S, L, 60 + 2 * hi + 5, as, rfl, d6, tk, by omega, by omega, by omega, fun H7 R zs f7 d7 _ rp gd lz => ?_⟩
      have hW7 := f7 _ _ nW (f6 _ _ nW hW5)
      have zp : 0 < zs.length := by omega
      have zl : zs.length ≤ 4 := by omega
      walk_at "gs"
      refine g_join (fun σ H' => ∃ (R : Addr) (zs : List (Addr × List Int)) (v7 : Option V), σ = [some (.ref sc), some (.ref S), some (.int i), some (.ref W), some (.int (1 + bt)), some (.int (60 + 2 * hi + 5)), some (.ref R), v7, v8, v9, v10, v11, v12] ∧
        H' W = some (.tup [.int lo, .int hi]) ∧ Dst K (noT H) H' S ∧ RepL S H' R zs ∧ Good 10000 zs ∧ zs ≠ [] ∧ zs.length ≤ 4) ?_ ?_
      case refine_2 =>
        intro N' hk
        walk_at "go"
        refine use_drawn (n := 2) d7 (by decide) (by decide) fun H8 c f8 d8 c0 c1 => ?_
        have hW8 := f8 _ _ nW hW7
        have rp8 := rp.frm f8
        have gd' : Good 10000 zs := gd.mono (by omega)
        walk_at "go"
        refine g_ite (fun hc => ?_) (fun hc => ?_)
        · walk_at "go"
          refine w_lcList (SqL.of rp8.at_) (fun D j H' => Frm S H8 H' ∧ Dst K (noT H) H' S ∧ ∃ ys, RepL S H' D ys ∧ Good 10000 ys ∧ ys.length = j) (fun D hD => ⟨.new hD, d8.same (same_new hD), [], ⟨upd_same, d8.ne hD, fun z hz => nomatch hz⟩, (fun z hz => nomatch hz), rfl⟩) (fun D j H' hD _ h => SqL.of (rp8.frm h.1).at_) (fun D j y H' hD hy h => ?_) (fun D H' hD h => ?_)
          · obtain ⟨f9, d9, ys, rp9, gd9, ly⟩ := h
            have jl := (List.getElem?_eq_some_iff.mp hy).1
            rw [List.length_map] at jl
            walk_at "go"
            refine ⟨rfl, ?_⟩
            walk_at "go"
            refine ⟨_, S, 60 + 2 * hi + 5, rfl, d9, by omega, by omega, fun H10 M m f10 d10 hM eM ri => ?_⟩
            have rp10 := rp9.frm f10
            refine ⟨_, rp10.at_, by rw [sizeLine_eq, List.length_map]; omega, Frm.mut (f9.trans f10) hD, d10.mut (d8.ne hD) (d8.fresh hD), ys ++ [(M, m)], rp10.put eM (d9.ne hM) (ne_of_none rp9.at_ hM).symm, fun z hz => ?_, by rw [List.length_append, ly]; rfl⟩
            rw [List.mem_append, List.mem_singleton] at hz
            rcases hz with hz | rfl
            · exact gd9 z hz
            · exact ⟨ri.1, fun x hx => by have := ri.2 x hx; omega⟩
          · obtain ⟨f9, d9, ys, rp9, gd9, ly⟩ := h
            rw [List.length_map] at ly
            walk_at "go"
            exact hk _ _ ⟨D, ys, _, rfl, f9 _ _ nW hW8, d9, rp9, gd9, List.ne_nil_of_length_pos (by omega), by omega⟩
        · walk_at "go"
          exact hk _ _ ⟨R, zs, _, rfl, hW8, d8, rp8, gd', List.ne_nil_of_length_pos zp, zl⟩
      case refine_1 =>
        clear rp gd lz zp zl d7 hW7 d6 tk la lp f7 f6 f5 f4 d5 d4 d3 d2 d f2
        rintro σ H7 ⟨R, zs, v7, rfl, hW, d, rp, gd, ze, zl⟩
        walk_at "go"
        refine ⟨_, S, R, zs, rfl, d, rp, ze, by omega, gd, fun H8 t R' ys h k f8 d8 ht rp8 gd8 ly hh0 hh1 hg => ?_⟩
        have hW8 := f8 _ _ nW hW
        have hg' : ∃ m ∈ ys.map (·.2), ∀ x ∈ m, x ≤ h := by
          obtain ⟨z, hz, hx⟩ := hg
          exact ⟨z.2, List.mem_map.mpr ⟨z, hz, rfl⟩, hx⟩
        obtain ⟨m, wd, b1, hwd, m1, m2, b2, b3, b4⟩ := hang (lo := lo) (hi := hi) (h := h) (en := 60 + 2 * hi + 5) okb.1 (by omega) hh0 hg' (by omega)
        walk_at "go"
        refine g_gtup (SqT.of ht) rfl ?_
        walk_at "go"
        refine g_ixT (SqT.of hW8) rfl ?_
        refine g_I (mulW_small (by decide) (by decide) (by omega) (by omega)) ?_
        walk_at "go"
        refine use_found hW8 okw okb rp8 gd8 ly (by omega) (by omega) b1 fun H9 p s9 hp => ?_
        have hW9 := s9 _ _ hW8
        have rp9 := rp8.frm (.of s9)
        walk_at "go"
        refine g_ixT (SqT.of hp) rfl ?_
        walk_at "go"
        refine g_ite (fun hc => absurd (show h + 2 * hi + 1 < m from hc) (by omega)) (fun _ => ?_)
        walk_at "go"
        refine use_found hW9 okw okb rp9 gd8 ly (by omega) (by omega) b2 fun H10 p2 s10 hp2 => ?_
        have hp10 := s10 _ _ hp
        have rp10 := rp9.frm (.of s10)
        have hW10 := s10 _ _ hW9
        refine ⟨_, _, .tup (SqT.of hp10) (.cons (.int _) (.cons (.str _) .nil)), .tup (SqT.of hp2) (.cons (.int _) (.cons (.str _) .nil)), shaped_bite m hwd, shaped_bite m hwd, ?_⟩
        rw [eqv_bite]
        walk_at "go"
        refine g_ixT (SqT.of hp10) rfl ?_
        walk_at "go"
        refine use_found_no hW10 okw okb rp10 gd8 ly (by omega) (by omega) b3 fun H11 s11 => ?_
        have rp11 := rp10.frm (.of s11)
        walk_at "go"
        refine ⟨1 + bt, 60 + 2 * hi + 5, R', _, _, rfl, fun b => (b okb).elim, fun _ => ⟨rp11.rep, by rw [List.length_map]; omega, gd8.le, by omega, by omega, fun H12 Lp s12 _ eLp => ?_⟩⟩
        generalize kp (1 + bt) (ys.map (·.2)) (60 + 2 * hi + 5) = ps at b4 eLp
        have s8f := ((s9.trans s10).trans s11).trans s12
        refine w_lcList (SqL.of eLp) (fun D j H' => Same H12 H' ∧ H' D = some (.lst (((ps.take j).filter fun x => decide (x > h)).map V.int))) (fun D hD => ⟨same_new hD, upd_same⟩) (fun D j H' hD _ h => SqL.of (h.1 _ _ eLp)) (fun D j y H' hD hy hh => ?_) (fun M H13 hM hh => ?_)
        · obtain ⟨x, hx, rfl⟩ := map_at hy
          have ex : (ps.take (j + 1)).filter (fun x => decide (x > h)) = (ps.take j).filter (fun x => decide (x > h)) ++ (if x > h then [x] else []) := by
            rw [List.take_add_one, hx, List.filter_append]
            congr 1
            show List.filter (fun x => decide (x > h)) [x] = _
            by_cases c : x > h
            · simp [c]
            · simp [c]
          walk_at "go"
          refine ⟨rfl, ?_⟩
          walk_at "go"
          refine g_ite (fun c => ?_) (fun c => ?_)
          · rw [if_pos c] at ex
            walk_at "go"
            refine ⟨_, hh.2, ?_, Wd.Same.mut hh.1 hD, by rw [upd_same, ex, List.map_append]; rfl⟩
            rw [sizeLine_eq, List.length_map]
            have := ((List.take_sublist j ps).filter fun x => decide (x > h)).length_le
            omega
          · rw [if_neg c, List.append_nil] at ex
            exact ⟨hh.1, by rw [ex]; exact hh.2⟩
        obtain ⟨s13, eM⟩ := hh
        rw [List.length_map, List.take_length] at eM
        walk_at "go"
        refine g_len (.inl (SqL.of eM)) ?_
        walk_at "go"
        rw [List.length_map]
        refine g_ite (fun hc => absurd (show (1 : Int) < ((ps.filter fun x => decide (x > h)).length : Int) from hc) (by omega)) (fun _ => ?_)
        walk_at "go"
        exact ⟨_, _, _, _, _, _, _, _, _, _, _, rfl, d8.same (s8f.trans s13)⟩
    · rintro σ H' ⟨v2, v3, v4, v5, v6, v7, v8, v9, v10, v11, v12, rfl, d⟩
      walk_at "go"
      exact q H'
end
end K12
namespace K12
open PySem PySem.Spec PyProof.Rows L2 Wd
theorem law_at {l : PySem.W.OpenLaw} {w : World} {K : PySem.W.Frag} {h : Heap} {mg : Str → Option Value} {fa : Addr} (X : K.In h) (G : h.Ns mainGlobals mg) (hfa : mg "law" = some (.ref fa))
    {f_is_number : Addr} {oc_is_number kV_is_number dc_is_number pm_is_number cd_is_number ct_is_number : Value} {od_is_number an_is_number : Option Addr} {sl_is_number : Array (Option Value)}
    {f_is_range : Addr} {oc_is_range kV_is_range dc_is_range pm_is_range cd_is_range ct_is_range : Value} {od_is_range an_is_range : Option Addr} {sl_is_range : Array (Option Value)}
    {f_check_window : Addr} {oc_check_window kV_check_window dc_check_window pm_check_window cd_check_window ct_check_window : Value} {od_check_window an_check_window : Option Addr} {sl_check_window : Array (Option Value)}
    {f_first_bite : Addr} {oc_first_bite kV_first_bite dc_first_bite pm_first_bite cd_first_bite ct_first_bite : Value} {od_first_bite an_first_bite : Option Addr} {sl_first_bite : Array (Option Value)}
    {f_bitten_at : Addr} {oc_bitten_at kV_bitten_at dc_bitten_at pm_bitten_at cd_bitten_at ct_bitten_at : Value} {od_bitten_at an_bitten_at : Option Addr} {sl_bitten_at : Array (Option Value)}
    {f_check_beat : Addr} {oc_check_beat kV_check_beat dc_check_beat pm_check_beat cd_check_beat ct_check_beat : Value} {od_check_beat an_check_beat : Option Addr} {sl_check_beat : Array (Option Value)}
    {f_first_behind : Addr} {oc_first_behind kV_first_behind dc_first_behind pm_first_behind cd_first_behind ct_first_behind : Value} {od_first_behind an_first_behind : Option Addr} {sl_first_behind : Array (Option Value)}
    {f_keeper_pats : Addr} {oc_keeper_pats kV_keeper_pats dc_keeper_pats pm_keeper_pats cd_keeper_pats ct_keeper_pats : Value} {od_keeper_pats an_keeper_pats : Option Addr} {sl_keeper_pats : Array (Option Value)}
    {f_found_at : Addr} {oc_found_at kV_found_at dc_found_at pm_found_at cd_found_at ct_found_at : Value} {od_found_at an_found_at : Option Addr} {sl_found_at : Array (Option Value)}
    {f_law_start : Addr} {oc_law_start kV_law_start dc_law_start pm_law_start cd_law_start ct_law_start : Value} {od_law_start an_law_start : Option Addr} {sl_law_start : Array (Option Value)}
    {f_law_drawn : Addr} {oc_law_drawn kV_law_drawn dc_law_drawn pm_law_drawn cd_law_drawn ct_law_drawn : Value} {od_law_drawn an_law_drawn : Option Addr} {sl_law_drawn : Array (Option Value)}
    {f_law_window : Addr} {oc_law_window kV_law_window dc_law_window pm_law_window cd_law_window ct_law_window : Value} {od_law_window an_law_window : Option Addr} {sl_law_window : Array (Option Value)}
    {f_law_tasks : Addr} {oc_law_tasks kV_law_tasks dc_law_tasks pm_law_tasks cd_law_tasks ct_law_tasks : Value} {od_law_tasks an_law_tasks : Option Addr} {sl_law_tasks : Array (Option Value)}
    {f_law_reports : Addr} {oc_law_reports kV_law_reports dc_law_reports pm_law_reports cd_law_reports ct_law_reports : Value} {od_law_reports an_law_reports : Option Addr} {sl_law_reports : Array (Option Value)}
    {f_law_hung : Addr} {oc_law_hung kV_law_hung dc_law_hung pm_law_hung cd_law_hung ct_law_hung : Value} {od_law_hung an_law_hung : Option Addr} {sl_law_hung : Array (Option Value)}
    {f_law_any : Addr} {oc_law_any kV_law_any dc_law_any pm_law_any cd_law_any ct_law_any : Value} {od_law_any an_law_any : Option Addr} {sl_law_any : Array (Option Value)}
    {fa0 : Addr} {oc_law kV_law dc_law pm_law cd_law ct_law : Value} {od_law an_law : Option Addr} {sl_law : Array (Option Value)}
    {t_GREATEST_HIGH : Tok}
    {t_GREATEST_BEAT : Tok}
    {C_W C_T : Addr}
    (a_is_number : PySem.W.nsIn K mainGlobals "is_number" = some (some (.ref f_is_number)))
    (l_is_number : K.lookup f_is_number = some ⟨oc_is_number, od_is_number, .func (PySem.W.fnOf "is_number" "is_number" (C8.fnArgs s_is_number) (C8.fnBody s_is_number) (C8.fnScope s_is_number) .none kV_is_number dc_is_number pm_is_number an_is_number cd_is_number ct_is_number), sl_is_number⟩)
    (c_is_number : PySem.W.codeIn K cd_is_number "is_number" = true)
    (k_is_number : PySem.W.keepIn K (.ref f_is_number) = true)
    (a_is_range : PySem.W.nsIn K mainGlobals "is_range" = some (some (.ref f_is_range)))
    (l_is_range : K.lookup f_is_range = some ⟨oc_is_range, od_is_range, .func (PySem.W.fnOf "is_range" "is_range" (C8.fnArgs s_is_range) (C8.fnBody s_is_range) (C8.fnScope s_is_range) .none kV_is_range dc_is_range pm_is_range an_is_range cd_is_range ct_is_range), sl_is_range⟩)
    (c_is_range : PySem.W.codeIn K cd_is_range "is_range" = true)
    (k_is_range : PySem.W.keepIn K (.ref f_is_range) = true)
    (a_check_window : PySem.W.nsIn K mainGlobals "check_window" = some (some (.ref f_check_window)))
    (l_check_window : K.lookup f_check_window = some ⟨oc_check_window, od_check_window, .func (PySem.W.fnOf "check_window" "check_window" (C8.fnArgs s_check_window) (C8.fnBody s_check_window) (C8.fnScope s_check_window) .none kV_check_window dc_check_window pm_check_window an_check_window cd_check_window ct_check_window), sl_check_window⟩)
    (c_check_window : PySem.W.codeIn K cd_check_window "check_window" = true)
    (k_check_window : PySem.W.keepIn K (.ref f_check_window) = true)
    (a_first_bite : PySem.W.nsIn K mainGlobals "first_bite" = some (some (.ref f_first_bite)))
    (l_first_bite : K.lookup f_first_bite = some ⟨oc_first_bite, od_first_bite, .func (PySem.W.fnOf "first_bite" "first_bite" (C8.fnArgs s_first_bite) (C8.fnBody s_first_bite) (C8.fnScope s_first_bite) .none kV_first_bite dc_first_bite pm_first_bite an_first_bite cd_first_bite ct_first_bite), sl_first_bite⟩)
    (c_first_bite : PySem.W.codeIn K cd_first_bite "first_bite" = true)
    (k_first_bite : PySem.W.keepIn K (.ref f_first_bite) = true)
    (a_bitten_at : PySem.W.nsIn K mainGlobals "bitten_at" = some (some (.ref f_bitten_at)))
    (l_bitten_at : K.lookup f_bitten_at = some ⟨oc_bitten_at, od_bitten_at, .func (PySem.W.fnOf "bitten_at" "bitten_at" (C8.fnArgs s_bitten_at) (C8.fnBody s_bitten_at) (C8.fnScope s_bitten_at) .none kV_bitten_at dc_bitten_at pm_bitten_at an_bitten_at cd_bitten_at ct_bitten_at), sl_bitten_at⟩)
    (c_bitten_at : PySem.W.codeIn K cd_bitten_at "bitten_at" = true)
    (k_bitten_at : PySem.W.keepIn K (.ref f_bitten_at) = true)
    (a_check_beat : PySem.W.nsIn K mainGlobals "check_beat" = some (some (.ref f_check_beat)))
    (l_check_beat : K.lookup f_check_beat = some ⟨oc_check_beat, od_check_beat, .func (PySem.W.fnOf "check_beat" "check_beat" (C8.fnArgs s_check_beat) (C8.fnBody s_check_beat) (C8.fnScope s_check_beat) .none kV_check_beat dc_check_beat pm_check_beat an_check_beat cd_check_beat ct_check_beat), sl_check_beat⟩)
    (c_check_beat : PySem.W.codeIn K cd_check_beat "check_beat" = true)
    (k_check_beat : PySem.W.keepIn K (.ref f_check_beat) = true)
    (a_first_behind : PySem.W.nsIn K mainGlobals "first_behind" = some (some (.ref f_first_behind)))
    (l_first_behind : K.lookup f_first_behind = some ⟨oc_first_behind, od_first_behind, .func (PySem.W.fnOf "first_behind" "first_behind" (C8.fnArgs s_first_behind) (C8.fnBody s_first_behind) (C8.fnScope s_first_behind) .none kV_first_behind dc_first_behind pm_first_behind an_first_behind cd_first_behind ct_first_behind), sl_first_behind⟩)
    (c_first_behind : PySem.W.codeIn K cd_first_behind "first_behind" = true)
    (k_first_behind : PySem.W.keepIn K (.ref f_first_behind) = true)
    (a_keeper_pats : PySem.W.nsIn K mainGlobals "keeper_pats" = some (some (.ref f_keeper_pats)))
    (l_keeper_pats : K.lookup f_keeper_pats = some ⟨oc_keeper_pats, od_keeper_pats, .func (PySem.W.fnOf "keeper_pats" "keeper_pats" (C8.fnArgs s_keeper_pats) (C8.fnBody s_keeper_pats) (C8.fnScope s_keeper_pats) .none kV_keeper_pats dc_keeper_pats pm_keeper_pats an_keeper_pats cd_keeper_pats ct_keeper_pats), sl_keeper_pats⟩)
    (c_keeper_pats : PySem.W.codeIn K cd_keeper_pats "keeper_pats" = true)
    (k_keeper_pats : PySem.W.keepIn K (.ref f_keeper_pats) = true)
    (a_found_at : PySem.W.nsIn K mainGlobals "found_at" = some (some (.ref f_found_at)))
    (l_found_at : K.lookup f_found_at = some ⟨oc_found_at, od_found_at, .func (PySem.W.fnOf "found_at" "found_at" (C8.fnArgs s_found_at) (C8.fnBody s_found_at) (C8.fnScope s_found_at) .none kV_found_at dc_found_at pm_found_at an_found_at cd_found_at ct_found_at), sl_found_at⟩)
    (c_found_at : PySem.W.codeIn K cd_found_at "found_at" = true)
    (k_found_at : PySem.W.keepIn K (.ref f_found_at) = true)
    (a_law_start : PySem.W.nsIn K mainGlobals "_law_start" = some (some (.ref f_law_start)))
    (l_law_start : K.lookup f_law_start = some ⟨oc_law_start, od_law_start, .func (PySem.W.fnOf "_law_start" "_law_start" (C8.fnArgs s_law_start) (C8.fnBody s_law_start) (C8.fnScope s_law_start) .none kV_law_start dc_law_start pm_law_start an_law_start cd_law_start ct_law_start), sl_law_start⟩)
    (c_law_start : PySem.W.codeIn K cd_law_start "_law_start" = true)
    (k_law_start : PySem.W.keepIn K (.ref f_law_start) = true)
    (a_law_drawn : PySem.W.nsIn K mainGlobals "_law_drawn" = some (some (.ref f_law_drawn)))
    (l_law_drawn : K.lookup f_law_drawn = some ⟨oc_law_drawn, od_law_drawn, .func (PySem.W.fnOf "_law_drawn" "_law_drawn" (C8.fnArgs s_law_drawn) (C8.fnBody s_law_drawn) (C8.fnScope s_law_drawn) .none kV_law_drawn dc_law_drawn pm_law_drawn an_law_drawn cd_law_drawn ct_law_drawn), sl_law_drawn⟩)
    (c_law_drawn : PySem.W.codeIn K cd_law_drawn "_law_drawn" = true)
    (k_law_drawn : PySem.W.keepIn K (.ref f_law_drawn) = true)
    (a_law_window : PySem.W.nsIn K mainGlobals "_law_window" = some (some (.ref f_law_window)))
    (l_law_window : K.lookup f_law_window = some ⟨oc_law_window, od_law_window, .func (PySem.W.fnOf "_law_window" "_law_window" (C8.fnArgs s_law_window) (C8.fnBody s_law_window) (C8.fnScope s_law_window) .none kV_law_window dc_law_window pm_law_window an_law_window cd_law_window ct_law_window), sl_law_window⟩)
    (c_law_window : PySem.W.codeIn K cd_law_window "_law_window" = true)
    (k_law_window : PySem.W.keepIn K (.ref f_law_window) = true)
    (a_law_tasks : PySem.W.nsIn K mainGlobals "_law_tasks" = some (some (.ref f_law_tasks)))
    (l_law_tasks : K.lookup f_law_tasks = some ⟨oc_law_tasks, od_law_tasks, .func (PySem.W.fnOf "_law_tasks" "_law_tasks" (C8.fnArgs s_law_tasks) (C8.fnBody s_law_tasks) (C8.fnScope s_law_tasks) .none kV_law_tasks dc_law_tasks pm_law_tasks an_law_tasks cd_law_tasks ct_law_tasks), sl_law_tasks⟩)
    (c_law_tasks : PySem.W.codeIn K cd_law_tasks "_law_tasks" = true)
    (k_law_tasks : PySem.W.keepIn K (.ref f_law_tasks) = true)
    (a_law_reports : PySem.W.nsIn K mainGlobals "_law_reports" = some (some (.ref f_law_reports)))
    (l_law_reports : K.lookup f_law_reports = some ⟨oc_law_reports, od_law_reports, .func (PySem.W.fnOf "_law_reports" "_law_reports" (C8.fnArgs s_law_reports) (C8.fnBody s_law_reports) (C8.fnScope s_law_reports) .none kV_law_reports dc_law_reports pm_law_reports an_law_reports cd_law_reports ct_law_reports), sl_law_reports⟩)
    (c_law_reports : PySem.W.codeIn K cd_law_reports "_law_reports" = true)
    (k_law_reports : PySem.W.keepIn K (.ref f_law_reports) = true)
    (a_law_hung : PySem.W.nsIn K mainGlobals "_law_hung" = some (some (.ref f_law_hung)))
    (l_law_hung : K.lookup f_law_hung = some ⟨oc_law_hung, od_law_hung, .func (PySem.W.fnOf "_law_hung" "_law_hung" (C8.fnArgs s_law_hung) (C8.fnBody s_law_hung) (C8.fnScope s_law_hung) .none kV_law_hung dc_law_hung pm_law_hung an_law_hung cd_law_hung ct_law_hung), sl_law_hung⟩)
    (c_law_hung : PySem.W.codeIn K cd_law_hung "_law_hung" = true)
    (k_law_hung : PySem.W.keepIn K (.ref f_law_hung) = true)
    (a_law_any : PySem.W.nsIn K mainGlobals "_law_any" = some (some (.ref f_law_any)))
    (l_law_any : K.lookup f_law_any = some ⟨oc_law_any, od_law_any, .func (PySem.W.fnOf "_law_any" "_law_any" (C8.fnArgs s_law_any) (C8.fnBody s_law_any) (C8.fnScope s_law_any) .none kV_law_any dc_law_any pm_law_any an_law_any cd_law_any ct_law_any), sl_law_any⟩)
    (c_law_any : PySem.W.codeIn K cd_law_any "_law_any" = true)
    (k_law_any : PySem.W.keepIn K (.ref f_law_any) = true)
    (a_law : PySem.W.nsIn K mainGlobals "law" = some (some (.ref fa0)))
    (l_law : K.lookup fa0 = some ⟨oc_law, od_law, .func (PySem.W.fnOf "law" "law" (C8.fnArgs s_law) (C8.fnBody s_law) (C8.fnScope s_law) .none kV_law dc_law pm_law an_law cd_law ct_law), sl_law⟩)
    (c_law : PySem.W.codeIn K cd_law "law" = true)
    (k_law : PySem.W.keepIn K (.ref fa0) = true)
    (z_isinstance : PySem.W.nsIn K mainGlobals "isinstance" = some none)
    (z_len : PySem.W.nsIn K mainGlobals "len" = some none)
    (z_int : PySem.W.nsIn K mainGlobals "int" = some none)
    (z_bool : PySem.W.nsIn K mainGlobals "bool" = some none)
    (z_range : PySem.W.nsIn K mainGlobals "range" = some none)
    (z_list : PySem.W.nsIn K mainGlobals "list" = some none)
    (z_tuple : PySem.W.nsIn K mainGlobals "tuple" = some none)
    (z_str : PySem.W.nsIn K mainGlobals "str" = some none)
    (z_max : PySem.W.nsIn K mainGlobals "max" = some none)
    (z_zip : PySem.W.nsIn K mainGlobals "zip" = some none)
    (q_GREATEST_HIGH : PySem.W.nsIn K mainGlobals "GREATEST_HIGH" = some (some (.int 1000 t_GREATEST_HIGH)))
    (q_GREATEST_BEAT : PySem.W.nsIn K mainGlobals "GREATEST_BEAT" = some (some (.int 60 t_GREATEST_BEAT)))
    (aEW : PySem.W.nsIn K mainGlobals "BadWindow" = some (some (.ref C_W)))
    (xEW : PySem.W.excIn K C_W [.type "ValueError", .type "Exception", .type "BaseException", .type "object"] "ValueError.__new__" = true)
    (kEW : PySem.W.keepIn K (.ref C_W) = true)
    (bEW : PySem.W.subIn K (.ref C_W) (.type "BaseException") = some true)
    (tEW : PySem.W.typeIn K (.ref C_W) = some (.type "type"))
    (aET : PySem.W.nsIn K mainGlobals "BadBeat" = some (some (.ref C_T)))
    (xET : PySem.W.excIn K C_T [.type "ValueError", .type "Exception", .type "BaseException", .type "object"] "ValueError.__new__" = true)
    (kET : PySem.W.keepIn K (.ref C_T) = true)
    (bET : PySem.W.subIn K (.ref C_T) (.type "BaseException") = some true)
    (tET : PySem.W.typeIn K (.ref C_T) = some (.type "type")) :
    ∃ fd : FuncData, (∀ (s : Shared) (v : Value), BindsTo s fd ⟨[v], []⟩ [("_law_script", v)]) ∧ ∀ base : Heap, K.In base → base.Ns mainGlobals mg → FnOk l.prog w K mg base C8.CX0 6 fa fd ["_law_script"] (sp_law K) := by
  have e := hfa.symm.trans (PySem.W.mg_of X G a_law)
  cases e
  have D_is_number : C8.Def K mg "is_number" s_is_number f_is_number _ := ⟨⟨_, _, _, _, _, _, _, _, _, _, rfl, l_is_number, c_is_number⟩, PySem.W.mg_of X G a_is_number, k_is_number⟩
  have B_is_number := C8.Fun.binds (ps := ["value"]) D_is_number.fn rfl fun _ _ _ _ _ _ us hl => match us, hl with | [_], _ => rfl
  have D_is_range : C8.Def K mg "is_range" s_is_range f_is_range _ := ⟨⟨_, _, _, _, _, _, _, _, _, _, rfl, l_is_range, c_is_range⟩, PySem.W.mg_of X G a_is_range, k_is_range⟩
  have B_is_range := C8.Fun.binds (ps := ["least", "most", "limit"]) D_is_range.fn rfl fun _ _ _ _ _ _ us hl => match us, hl with | [_, _, _], _ => rfl
  have D_check_window : C8.Def K mg "check_window" s_check_window f_check_window _ := ⟨⟨_, _, _, _, _, _, _, _, _, _, rfl, l_check_window, c_check_window⟩, PySem.W.mg_of X G a_check_window, k_check_window⟩
  have B_check_window := C8.Fun.binds (ps := ["window"]) D_check_window.fn rfl fun _ _ _ _ _ _ us hl => match us, hl with | [_], _ => rfl
  have D_first_bite : C8.Def K mg "first_bite" s_first_bite f_first_bite _ := ⟨⟨_, _, _, _, _, _, _, _, _, _, rfl, l_first_bite, c_first_bite⟩, PySem.W.mg_of X G a_first_bite, k_first_bite⟩
  have B_first_bite := C8.Fun.binds (ps := ["window", "pats"]) D_first_bite.fn rfl fun _ _ _ _ _ _ us hl => match us, hl with | [_, _], _ => rfl
  have D_bitten_at : C8.Def K mg "bitten_at" s_bitten_at f_bitten_at _ := ⟨⟨_, _, _, _, _, _, _, _, _, _, rfl, l_bitten_at, c_bitten_at⟩, PySem.W.mg_of X G a_bitten_at, k_bitten_at⟩
  have B_bitten_at := C8.Fun.binds (ps := ["window", "pats", "end"]) D_bitten_at.fn rfl fun _ _ _ _ _ _ us hl => match us, hl with | [_, _, _], _ => rfl
  have D_check_beat : C8.Def K mg "check_beat" s_check_beat f_check_beat _ := ⟨⟨_, _, _, _, _, _, _, _, _, _, rfl, l_check_beat, c_check_beat⟩, PySem.W.mg_of X G a_check_beat, k_check_beat⟩
  have B_check_beat := C8.Fun.binds (ps := ["beat"]) D_check_beat.fn rfl fun _ _ _ _ _ _ us hl => match us, hl with | [_], _ => rfl
  have D_first_behind : C8.Def K mg "first_behind" s_first_behind f_first_behind _ := ⟨⟨_, _, _, _, _, _, _, _, _, _, rfl, l_first_behind, c_first_behind⟩, PySem.W.mg_of X G a_first_behind, k_first_behind⟩
  have B_first_behind := C8.Fun.binds (ps := ["moments", "at", "last"]) D_first_behind.fn rfl fun _ _ _ _ _ _ us hl => match us, hl with | [_, _, _], _ => rfl
  have D_keeper_pats : C8.Def K mg "keeper_pats" s_keeper_pats f_keeper_pats _ := ⟨⟨_, _, _, _, _, _, _, _, _, _, rfl, l_keeper_pats, c_keeper_pats⟩, PySem.W.mg_of X G a_keeper_pats, k_keeper_pats⟩
  have B_keeper_pats := C8.Fun.binds (ps := ["beat", "reports", "end"]) D_keeper_pats.fn rfl fun _ _ _ _ _ _ us hl => match us, hl with | [_, _, _], _ => rfl
  have D_found_at : C8.Def K mg "found_at" s_found_at f_found_at _ := ⟨⟨_, _, _, _, _, _, _, _, _, _, rfl, l_found_at, c_found_at⟩, PySem.W.mg_of X G a_found_at, k_found_at⟩
  have B_found_at := C8.Fun.binds (ps := ["window", "beat", "reports", "end"]) D_found_at.fn rfl fun _ _ _ _ _ _ us hl => match us, hl with | [_, _, _, _], _ => rfl
  have D_law_start : C8.Def K mg "_law_start" s_law_start f_law_start _ := ⟨⟨_, _, _, _, _, _, _, _, _, _, rfl, l_law_start, c_law_start⟩, PySem.W.mg_of X G a_law_start, k_law_start⟩
  have B_law_start := C8.Fun.binds (ps := ["_law_script"]) D_law_start.fn rfl fun _ _ _ _ _ _ us hl => match us, hl with | [_], _ => rfl
  have D_law_drawn : C8.Def K mg "_law_drawn" s_law_drawn f_law_drawn _ := ⟨⟨_, _, _, _, _, _, _, _, _, _, rfl, l_law_drawn, c_law_drawn⟩, PySem.W.mg_of X G a_law_drawn, k_law_drawn⟩
  have B_law_drawn := C8.Fun.binds (ps := ["_law_state", "_law_many"]) D_law_drawn.fn rfl fun _ _ _ _ _ _ us hl => match us, hl with | [_, _], _ => rfl
  have D_law_window : C8.Def K mg "_law_window" s_law_window f_law_window _ := ⟨⟨_, _, _, _, _, _, _, _, _, _, rfl, l_law_window, c_law_window⟩, PySem.W.mg_of X G a_law_window, k_law_window⟩
  have B_law_window := C8.Fun.binds (ps := ["_law_state", "_law_most"]) D_law_window.fn rfl fun _ _ _ _ _ _ us hl => match us, hl with | [_, _], _ => rfl
  have D_law_tasks : C8.Def K mg "_law_tasks" s_law_tasks f_law_tasks _ := ⟨⟨_, _, _, _, _, _, _, _, _, _, rfl, l_law_tasks, c_law_tasks⟩, PySem.W.mg_of X G a_law_tasks, k_law_tasks⟩
  have B_law_tasks := C8.Fun.binds (ps := ["_law_state", "_law_most", "_law_gap"]) D_law_tasks.fn rfl fun _ _ _ _ _ _ us hl => match us, hl with | [_, _, _], _ => rfl
  have D_law_reports : C8.Def K mg "_law_reports" s_law_reports f_law_reports _ := ⟨⟨_, _, _, _, _, _, _, _, _, _, rfl, l_law_reports, c_law_reports⟩, PySem.W.mg_of X G a_law_reports, k_law_reports⟩
  have B_law_reports := C8.Fun.binds (ps := ["_law_state", "_law_tasks_here", "_law_end"]) D_law_reports.fn rfl fun _ _ _ _ _ _ us hl => match us, hl with | [_, _, _], _ => rfl
  have D_law_hung : C8.Def K mg "_law_hung" s_law_hung f_law_hung _ := ⟨⟨_, _, _, _, _, _, _, _, _, _, rfl, l_law_hung, c_law_hung⟩, PySem.W.mg_of X G a_law_hung, k_law_hung⟩
  have B_law_hung := C8.Fun.binds (ps := ["_law_state", "_law_reports_here"]) D_law_hung.fn rfl fun _ _ _ _ _ _ us hl => match us, hl with | [_, _], _ => rfl
  have D_law_any : C8.Def K mg "_law_any" s_law_any f_law_any _ := ⟨⟨_, _, _, _, _, _, _, _, _, _, rfl, l_law_any, c_law_any⟩, PySem.W.mg_of X G a_law_any, k_law_any⟩
  have B_law_any := C8.Fun.binds (ps := ["_law_state", "_law_end"]) D_law_any.fn rfl fun _ _ _ _ _ _ us hl => match us, hl with | [_, _], _ => rfl
  have T0 : Txt K mg C_W := ⟨PySem.W.mg_none_of X G z_isinstance, PySem.W.mg_none_of X G z_len, PySem.W.mg_none_of X G z_int, PySem.W.mg_none_of X G z_bool, PySem.W.mg_none_of X G z_range, PySem.W.mg_none_of X G z_list, PySem.W.mg_none_of X G z_tuple, PySem.W.mg_none_of X G z_str, PySem.W.mg_none_of X G z_max, ⟨_, PySem.W.mg_of X G q_GREATEST_HIGH⟩, PySem.W.mg_of X G aEW, xEW, kEW, bEW, tEW⟩
  have T : TxtK K mg C_W C_T := ⟨T0, PySem.W.mg_none_of X G z_zip, ⟨_, PySem.W.mg_of X G q_GREATEST_BEAT⟩, PySem.W.mg_of X G aET, xET, kET, bET, tET⟩
  have D_law : C8.Def K mg "law" s_law _ _ := ⟨⟨_, _, _, _, _, _, _, _, _, _, rfl, l_law, c_law⟩, PySem.W.mg_of X G a_law, k_law⟩
  refine ⟨PySem.W.fnOf "law" "law" (C8.fnArgs s_law) (C8.fnBody s_law) (C8.fnScope s_law) .none kV_law dc_law pm_law an_law cd_law ct_law, fun s u => .of_eq rfl, fun base KB GB => ?_⟩
  have g0 := ok_is_number (P := l.prog) (w := w) (base := base) T0 D_is_number B_is_number
  have g1 := ok_is_range T0 D_is_range B_is_range g0
  have g2 := ok_check_window T0 D_check_window B_check_window g1
  have g3 := ok_first_bite (P := l.prog) (w := w) (base := base) T0 D_first_bite B_first_bite
  have g4 := ok_bitten_at T0 D_bitten_at B_bitten_at g2 g3
  have g5 := ok_check_beat T D_check_beat B_check_beat g0
  have g6 := ok_first_behind (P := l.prog) (w := w) (base := base) T D_first_behind B_first_behind
  have g7 := ok_keeper_pats T D_keeper_pats B_keeper_pats g5 g6
  have g8 := ok_found_at T D_found_at B_found_at g2 g7 g4
  have h1 := ok_start (P := l.prog) (w := w) (base := base) T0 D_law_start B_law_start
  have h2 := ok_drawn (P := l.prog) (w := w) (base := base) T0 D_law_drawn B_law_drawn
  exact ok_law T D_law h1 h2 (ok_window T0 D_law_window B_law_window h2) (ok_tasks T D_law_tasks B_law_tasks h2) (ok_reports T D_law_reports B_law_reports h2) (ok_any T D_law_any B_law_any h2) (ok_hung T D_law_hung B_law_hung h2) g8 g7
theorem walk {l : PySem.W.OpenLaw} {q : Program} {loose : List Str} {XP : (Str → Option Value) → Heap → Prop} {YP : World → Heap → Prop} {d : DefRec} {K : Params → PySem.W.Frag} (hn : l.most = some 63) (hdf : d.params.defaults = [])
    (hY : ∀ (w : World) (h : Heap), YP w h → (K w.params).In h)
    (F : ∀ (w : World) (mg : Str → Option Value) (fa : Addr) (h : Heap), (K w.params).In h → h.Ns mainGlobals mg → mg d.name = some (.ref fa) →
      ∃ fd : FuncData, (∀ (s : Shared) (v : Value), BindsTo s fd ⟨[v], []⟩ [("_law_script", v)]) ∧ ∀ base : Heap, (K w.params).In base → base.Ns mainGlobals mg → FnOk l.prog w (K w.params) mg base C8.CX0 6 fa fd ["_law_script"] (sp_law (K w.params))) :
    PySem.W.WalkO q loose XP YP l.row.toRowW d [] (fun f vs => PySem.call f vs) :=
  L2.walk_ofK (n := 63) (k := 6) (CX := C8.CX0) (sp := sp_law) hn (by decide) hdf ⟨rfl, by decide, by decide⟩ hY F (fun K H a ns hl _ hS => ⟨a, ns, rfl, hS, hl, fun _ => rfl⟩) fun _ _ _ _ z => z
end K12
open PySem PySem.W PyProof.Rows
set_option maxRecDepth 100000 in
set_option maxHeartbeats 0 in
theorem PySem.Challenge.cw_windowdog_k12_whole_a_task_that_hangs_is_holds : PySem.Challenge.rw_windowdog_k12_whole_a_task_that_hangs_is.Holds := by
  w_on; o_law; k_head; (case hw => w_witness2)
  k_fill
  refine K12.walk (l := PySem.Challenge.rw_windowdog_k12_whole_a_task_that_hangs_is) rfl rfl (fun w h Y => PySem.W.kIn_of Y) ?F
  case F =>
    intro w mg fa h KX G hmg
    refine' K12.law_at KX G hmg ?a_is_number ?l_is_number ?c_is_number ?k_is_number ?a_is_range ?l_is_range ?c_is_range ?k_is_range ?a_check_window ?l_check_window ?c_check_window ?k_check_window ?a_first_bite ?l_first_bite ?c_first_bite ?k_first_bite ?a_bitten_at ?l_bitten_at ?c_bitten_at ?k_bitten_at ?a_check_beat ?l_check_beat ?c_check_beat ?k_check_beat ?a_first_behind ?l_first_behind ?c_first_behind ?k_first_behind ?a_keeper_pats ?l_keeper_pats ?c_keeper_pats ?k_keeper_pats ?a_found_at ?l_found_at ?c_found_at ?k_found_at ?a_law_start ?l_law_start ?c_law_start ?k_law_start ?a_law_drawn ?l_law_drawn ?c_law_drawn ?k_law_drawn ?a_law_window ?l_law_window ?c_law_window ?k_law_window ?a_law_tasks ?l_law_tasks ?c_law_tasks ?k_law_tasks ?a_law_reports ?l_law_reports ?c_law_reports ?k_law_reports ?a_law_hung ?l_law_hung ?c_law_hung ?k_law_hung ?a_law_any ?l_law_any ?c_law_any ?k_law_any ?a_law ?l_law ?c_law ?k_law ?z_isinstance ?z_len ?z_int ?z_bool ?z_range ?z_list ?z_tuple ?z_str ?z_max ?z_zip ?q_GREATEST_HIGH ?q_GREATEST_BEAT ?aEW ?xEW ?kEW ?bEW ?tEW ?aET ?xET ?kET ?bET ?tET
    (case a_is_number => k_is)
    (case l_is_number => k_is)
    (case c_is_number => k_is)
    (case k_is_number => k_is)
    (case a_is_range => k_is)
    (case l_is_range => k_is)
    (case c_is_range => k_is)
    (case k_is_range => k_is)
    (case a_check_window => k_is)
    (case l_check_window => k_is)
    (case c_check_window => k_is)
    (case k_check_window => k_is)
    (case a_first_bite => k_is)
    (case l_first_bite => k_is)
    (case c_first_bite => k_is)
    (case k_first_bite => k_is)
    (case a_bitten_at => k_is)
    (case l_bitten_at => k_is)
    (case c_bitten_at => k_is)
    (case k_bitten_at => k_is)
    (case a_check_beat => k_is)
    (case l_check_beat => k_is)
    (case c_check_beat => k_is)
    (case k_check_beat => k_is)
    (case a_first_behind => k_is)
    (case l_first_behind => k_is)
    (case c_first_behind => k_is)
    (case k_first_behind => k_is)
    (case a_keeper_pats => k_is)
    (case l_keeper_pats => k_is)
    (case c_keeper_pats => k_is)
    (case k_keeper_pats => k_is)
    (case a_found_at => k_is)
    (case l_found_at => k_is)
    (case c_found_at => k_is)
    (case k_found_at => k_is)
    (case a_law_start => k_is)
    (case l_law_start => k_is)
    (case c_law_start => k_is)
    (case k_law_start => k_is)
    (case a_law_drawn => k_is)
    (case l_law_drawn => k_is)
    (case c_law_drawn => k_is)
    (case k_law_drawn => k_is)
    (case a_law_window => k_is)
    (case l_law_window => k_is)
    (case c_law_window => k_is)
    (case k_law_window => k_is)
    (case a_law_tasks => k_is)
    (case l_law_tasks => k_is)
    (case c_law_tasks => k_is)
    (case k_law_tasks => k_is)
    (case a_law_reports => k_is)
    (case l_law_reports => k_is)
    (case c_law_reports => k_is)
    (case k_law_reports => k_is)
    (case a_law_hung => k_is)
    (case l_law_hung => k_is)
    (case c_law_hung => k_is)
    (case k_law_hung => k_is)
    (case a_law_any => k_is)
    (case l_law_any => k_is)
    (case c_law_any => k_is)
    (case k_law_any => k_is)
    (case a_law => k_is)
    (case l_law => k_is)
    (case c_law => k_is)
    (case k_law => k_is)
    (case z_isinstance => k_is)
    (case z_len => k_is)
    (case z_int => k_is)
    (case z_bool => k_is)
    (case z_range => k_is)
    (case z_list => k_is)
    (case z_tuple => k_is)
    (case z_str => k_is)
    (case z_max => k_is)
    (case z_zip => k_is)
    (case q_GREATEST_HIGH => k_is)
    (case q_GREATEST_BEAT => k_is)
    (case aEW => k_is)
    (case xEW => k_exc)
    (case kEW => k_is)
    (case bEW => k_is)
    (case tEW => k_is)
    (case aET => k_is)
    (case xET => k_exc)
    (case kET => k_is)
    (case bET => k_is)
    (case tET => k_is)
