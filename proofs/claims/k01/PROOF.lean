import PyProof.Rows.All
import Wide.All
import OpenK.AllK
import Wide.FinOn
import PyProof.EqAt
import PyProof.EqKinds
import PyProof.TupleCall
import HandS.ForMost
import HandS.Wide
import HandS.Gcd
import HandS.IsInst
import HandS.RaiseMore
import HandS.TupAny
import HandS.TupMul
import HandS.Conv
import HandS.Style
import HandS.Flow
import HandS.Evl
import KE.DataEq
import PySem.Challenge.RW_ballgrids_k01_whole_numbers
set_option Elab.async false
set_option linter.all false
set_option maxRecDepth 100000
set_option maxHeartbeats 2000000
namespace My
open PySem PySem.Spec PyProof.Rows L2
abbrev St := L2.St
/-! ### defs that know that no repr is under way -/
structure FnG (P : Program) (w : World) (K : PySem.W.Frag) (mg : Str → Option Value) (base : Heap) (Z : CXT) (k : Nat)
    (f : Addr) (fd : FuncData) (ps : List Str) (sp : Sp) : Prop where
  many : ∀ vs H Q E, sp vs H Q E → vs.length = ps.length
  does : ∀ (B : Around) (out : List Env) (t : Shared) (H : Hp) (given : Args) (us : List Value) (vs : List V) (Q : VK) (E : XK),
    Room k B → B.guards = some [] → Env0 P w K mg base B out t H → BindsTo t fd given (ps.zip us) → Vals vs us →
    sp vs H Q E → codeAny (model P w) B (.call (.ref f) given) (CR Z out P w H t Q E) t
section
variable {P : Program} {w : World} {K : PySem.W.Frag} {mg : Str → Option Value} {base : Heap} {Z : CXT} {k : Nat}
    {f : Addr} {fd : FuncData} {ps : List Str} {sp : Sp}
theorem FnG.of (F : FnOk P w K mg base Z k f fd ps sp) : FnG P w K mg base Z k f fd ps sp :=
  ⟨F.len, fun B out t H given us vs Q E r _ e b v h => F.run B out t H given us vs Q E r e b v h⟩
theorem deep_guards {A : Around} {env : Env} (h : A.guards = some []) : (A.deeper env).guards = some [] := by
  first
    | exact h
    | (simpa [Around.deeper] using h)
/-- a def of the text by its body, where no repr is under way -/
theorem fn_g {name qual : Str} {params : Arguments} {body : List Stmt} {scope : Scope} {dV kV doc pm cdv ct oc : Value}
    {an od : Option Addr} {osl : Array (Option Value)} {N : List Str}
    (lk : K.lookup f = some ⟨oc, od, .func (PySem.W.fnOf name qual params body scope dV kV doc pm an cdv ct), osl⟩)
    (hcd : PySem.W.codeIn K cdv qual = true) (S : FnScope N ps scope) (hlen : ∀ vs H Q E, sp vs H Q E → vs.length = ps.length)
    (hb : ∀ (B : Around) (out : List Env) (t : Shared) (H : Hp) (vs : List V) (Q : VK) (E : XK),
      Room k (B.deeper (envOfC qual scope t.heap.objs.size f cdv)) →
      (B.deeper (envOfC qual scope t.heap.objs.size f cdv)).guards = some [] → sp vs H Q E →
      ∃ r, PSs (cxOf Z P w K mg base N qual scope f cdv B out t H E) body r ∧
        r { nx := fun _ H' => Q .non H', rt := Q } (start N vs) H) :
    FnG P w K mg base Z (k + 1) f (PySem.W.fnOf name qual params body scope dV kV doc pm an cdv ct) ps sp := by
  refine ⟨hlen, fun B out t H given us vs Q E room gd e0 bnd rel wish => ?_⟩
  have size := hlen _ _ _ _ wish
  have inK : K.In t.heap := e0.mod.kin.keeps fun b o e => (e0.bs b o e).1
  have noLim : t.heap.NoLimit := e0.mod.nolimit.keeps fun b o e => (e0.bs b o e).1
  have kinds : ∀ y ∈ ps.zip us, scope.names.lookup y.1 = some .local ∨
      (scope.names.lookup y.1 = some .cell ∧ ((cellsFrom (t.heap.objs.size + 1) scope.names []).lookup y.1).isSome = true) :=
    fun ⟨n, v⟩ hy => by
      rcases S.par n (List.of_mem_zip hy).1 with z | z
      · exact .inl z
      · exact .inr ⟨z, PySem.W.cellsFrom_some _ _ _ (.inl z)⟩
  refine codeAny_call_function room.depth (inK _ _ lk) rfl S.co S.gen rfl (PySem.W.codeRec_of inK hcd) (bnd _ _ _ _ ?_)
  refine wpAny_newFunctionEnv_cells S.kind kinds fun env0 he0 t1 made => ?_
  subst he0
  refine ⟨noLim.keeps made.toInCall.keep, codeAny_func ?_⟩
  obtain ⟨r, hr, hq⟩ := hb B out t H vs Q E (room.deeper _) (deep_guards gd) wish
  have J0 : Inv (cxOf Z P w K mg base N qual scope f cdv B out t H E) [] (start N vs) H t1 := inv_start S room.hd e0 size rel made
  refine wpAny_mono (hr.run [] t1 (start N vs) H _ J0 hq) (fun flow t2 hs => ?_) fun _ _ hs => hs
  have done : ∀ {σ' : St} {H' : Hp} {v : V} {u : Value},
      Inv (cxOf Z P w K mg base N qual scope f cdv B out t H E) [] σ' H' t2 → RelV v u → Q v H' → CE out P w H t Q u t2 :=
    fun {σ' H' v u} J rv q => ⟨v, H', J.os, J.bare, J.base, J.hok, rv, q⟩
  cases flow with
  | ret u => obtain ⟨v, σ', H', J, rv, q⟩ := hs; exact done J rv q
  | next => obtain ⟨σ', H', J, q⟩ := hs; exact done (v := V.non) (u := Value.none) J rfl q
  | brk => obtain ⟨_, _, _, q⟩ := hs; exact False.elim q
  | cont => obtain ⟨_, _, _, q⟩ := hs; exact False.elim q
/-- the same for a def as it stands behind the top; nothing is raised out of it -/
theorem fun_g {x qual : Str} {st : Stmt} {N : List Str} (F : Fun K x qual st f fd) (S : FnScope N ps (defScope st))
    (hlen : ∀ vs H Q E, sp vs H Q E → vs.length = ps.length)
    (hb : ∀ (cdv : Value) (B : Around) (out : List Env) (t : Shared) (H : Hp) (vs : List V) (Q : VK) (E : XK),
      Room k (B.deeper (envOfC qual (defScope st) t.heap.objs.size f cdv)) →
      (B.deeper (envOfC qual (defScope st) t.heap.objs.size f cdv)).guards = some [] → sp vs H Q E →
      ∃ r, PSs (cxOf CX0 P w K mg base N qual (defScope st) f cdv B out t H E).nox (defBody st) r ∧
        r { nx := fun _ H' => Q .non H', rt := Q } (start N vs) H) : FnG P w K mg base CX0 (k + 1) f fd ps sp := by
  obtain ⟨oc, od, kV, doc, pm, an, cdv, ct, osl, rfl, lk, hcd⟩ := F.ex
  refine fn_g lk hcd S hlen fun B out t H vs Q E room gd wish => ?_
  obtain ⟨r, hr, q⟩ := hb cdv B out t H vs Q E room gd wish
  exact ⟨r, hr.nox, q⟩
end
section
variable {X : Cx} {Z : CXT} {k : Nat} {f : Addr} {fd : FuncData} {ps : List Str} {sp : Sp} {dvs : List V} {ds : List Value} {E : XK}
    {x : Str} {p pos : Pos} {e : Expr} {es : List Expr} {t : TA}
/-- f(e, ..) of such a def -/
theorem pe_callG (F : FnG X.prog X.w X.K X.mg X.base Z k f fd ps sp) (room : Room k X.A) (gd : X.A.guards = some [])
    (hg : Gl X x) (hm : X.mg x = some (.ref f)) (hk : PySem.W.keepIn X.K (.ref f) = true) (hb : Binds X.K fd ps ds)
    (hd : Vals dvs ds) (hx : Passes Z X E) (ha : PA X (e :: es) t) (hdb : (x == ("__debug__" : Str)) = false := by decide)
    (he : starEach (e :: es) X.env = (false, eval e X.env) :: starEach es X.env := by rfl)
    (hpl : (backTo pos (starEach es X.env)).any (·.1) = false := by rfl) :
    PE X (.Call (.Name x p) (e :: es) [] pos) (tCall sp dvs E t) := by
  refine ⟨fun pins s σ H Q I h => wpAny_Call_Name_kw (ld_glob I hg hm ?_ hdb)⟩
  refine PySem.W.callWith_K (h₀ := X.base) I.ok.mod.kin hk
    (thn (ha.run pos pins s σ H _ I h) fun us s1 ⟨vs, H1, I1, rel, wish⟩ => ⟨I1.kIn, ?_⟩) he hpl
  have rel2 : Vals (vs ++ dvs) (us ++ ds) := rel.append hd
  have size : (us ++ ds).length = ps.length := by rw [← rel2.length]; exact F.many _ _ _ _ wish
  refine wpAny_call (codeAny_mono (F.does X.A X.stack s1 H1 ⟨us, []⟩ _ _ Q E room gd I1.env0 (hb s1 us I1.kIn size) rel2 wish)
    fun r s' hq => ?_)
  cases r with
  | error ex => exact hx pins σ H1 s1 ex s' I1 hq
  | ok fl =>
    cases fl with
    | ret u => exact I1.after hq
    | next => exact False.elim hq
    | brk => exact False.elim hq
    | cont => exact False.elim hq
/-- repr of data -/
def rReprD (K : PySem.W.Frag) : List V → Hp → VK → Prop := fun xs H Q => ∃ (v : V) (d : PyData), xs = [v] ∧ Dp K H v d ∧
  d.showable = true ∧ d.hasDict = false ∧ d.depth + 1 ≤ 64 ∧ d.shown.length ≤ sizeLine ∧ (∀ i, d = .int i → i.natAbs.log2 < 1920) ∧ Q (.str d.shown) H
theorem call_reprD (hu : X.A.units + 64 < cLine) (gd : X.A.guards = some []) : CallR X (.builtin "repr") (rReprD X.K) := by
  intro pins s σ H xs us Q I r h
  obtain ⟨v, d, rfl, dp, sh, hd, dep, sz, hi, q⟩ := h
  obtain ⟨u, rfl, ru⟩ := vals1 r
  cases dp with
  | non =>
    have ru' : u = Value.none := ru
    subst ru'
    exact PySem.P.repr_of_none ⟨.str _, H, I.tok _, ⟨_, rfl⟩, q⟩
  | bl b =>
    have ru' : u = Value.bool b := ru
    subst ru'
    exact PySem.P.repr_of_bool ⟨.str _, H, I.tok _, ⟨_, rfl⟩, q⟩
  | int i =>
    obtain ⟨t, rfl⟩ := ru
    exact PySem.P.repr_of_int (hi i rfl) ⟨.str _, H, I.tok _, ⟨_, rfl⟩, q⟩
  | str z =>
    obtain ⟨t, rfl⟩ := ru
    exact PySem.P.repr_of_str ⟨.str _, H, I.tok _, ⟨_, rfl⟩, q⟩ sz
  | lst hs ha =>
    rename_i a ys ds
    have ru' : u = Value.ref a := ru
    subst ru'
    obtain ⟨as, rd⟩ := Dp.reads I (PyData.list ds) (.ref a) (.ref a) (Dp.lst hs ha) rfl
    exact PySem.repr_of_reads' rd sh (fun z => by rw [hd] at z; cases z) gd (by omega) (fun b o e => e)
      (fun h' w tk keep => ⟨.str _, H, I.kept keep, ⟨_, rfl⟩, q⟩) sz
  | tup hs ha =>
    rename_i a ys ds
    have ru' : u = Value.ref a := ru
    subst ru'
    obtain ⟨as, rd⟩ := Dp.reads I (PyData.tuple ds) (.ref a) (.ref a) (Dp.tup hs ha) rfl
    exact PySem.repr_of_reads' rd sh (fun z => by rw [hd] at z; cases z) gd (by omega) (fun b o e => e)
      (fun h' w tk keep => ⟨.str _, H, I.kept keep, ⟨_, rfl⟩, q⟩) sz
/-! ### powers of greater bases -/
def CPowW (i j : Int) : Prop := 0 ≤ j ∧ (Builtin.Int.intBits i : Int) * j ≤ 2 ^ 27
theorem op_powW : OpR X (binaryOp .Pow) (rI CPowW fun i j => .int (i ^ j.toNat)) :=
  opI fun _ _ _ _ _ _ _ hc q => PyProof.Rows.pow_int hc.1 hc.2 q
/-! ### // by any divisor below 2 ^ 9000 -/
def CDivA (_ j : Int) : Prop := j ≠ 0 ∧ j.natAbs.log2 < 9000
theorem op_fdivA : OpR X (binaryOp .FloorDiv) (rI CDivA fun i j => .int (i.fdiv j)) :=
  opI fun _ _ _ _ _ _ _ hc q => PyProof.Rows.floordiv_int hc.1 q (.inl (PyProof.noPylong_of_log2 hc.2))
end
end My

set_option maxHeartbeats 2000000
namespace My
open PySem PySem.Spec PyProof.Rows L2 PySem.W
/-- the law's own call, from a def that knows that no repr is under way -/
theorem law_g {P : Program} {w : World} {K : PySem.W.Frag} {mg mb : Str → Option Value} {k : Nat} {fa a : Addr} {fd : FuncData}
    {x : Str} {sp : Sp} {t : Shared} {vs : List Value} {ns : List Int} (inK : K.In t.heap) (names : t.heap.Ns mainGlobals mg)
    (own : t.heap.Ns builtinsNs mb) (boot : ∀ x : Str, x ≠ "__name__" → mb x = bootBuiltins x) (noLim : t.heap.NoLimit)
    (noGen : t.gens = #[]) (ob : t.heap.get? a = some { cls := .type "list", data := .seq vs.toArray }) (hints : IntsAre vs ns)
    (short : ns.length ≤ sizeLine) (room : Room k callerA)
    (F : ∀ base : Heap, K.In base → base.Ns mainGlobals mg → FnG P w K mg base CX0 k fa fd [x] sp)
    (bnd : ∀ (s : Shared) (u : Value), BindsTo s fd ⟨[u], []⟩ [(x, u)])
    (wish : ∀ H : Hp, Only H → SqL K H a (ns.map V.int) → sp [.ref a] H (fun v _ => v = .bl true) fun _ _ _ => False) :
    codeAny (model P w) callerA (.call (.ref fa) ⟨[.ref a], []⟩)
      (fun r s' => r = .ok (.ret (.bool true)) ∧ OldK t.heap s'.heap ∧ s'.os = t.os ∧ AllBare s'.gens) t := by
  have rel := vals_ints hints
  have size := hints.length
  have main : ∀ H : Hp, Only H → SqL K H a (ns.map V.int) → HOk P w H t.heap → (∀ b, H b ≠ none → b = a) →
      (H a ≠ none → K.lookup a = none) → codeAny (model P w) callerA (.call (.ref fa) ⟨[.ref a], []⟩)
      (fun r s' => r = .ok (.ret (.bool true)) ∧ OldK t.heap s'.heap ∧ s'.os = t.os ∧ AllBare s'.gens) t := by
    intro H only seq hok one apart
    have back : ∀ {b : Addr} {o : Obj}, t.heap.get? b = some o → H b = none → (hidT t.heap H).get? b = some o :=
      fun e n => hidT_get e n
    have notA : ∀ {b : Addr} {o : Obj} {es : Array DictEntry} {ep : Nat}, t.heap.get? b = some o → o.data = .dict es ep → H b = none := by
      intro b o es ep e d
      cases q : H b with
      | none => rfl
      | some u =>
        obtain rfl : b = a := one b (by rw [q]; simp)
        rw [ob] at e
        cases e
        have d' : Data.seq vs.toArray _ = Data.dict es ep := d
        cases d'
    have spaces : ∀ {b : Addr} {m : Str → Option Value}, t.heap.Ns b m → (hidT t.heap H).Ns b m := by
      rintro b m ⟨o, es, ep, e, d, r⟩
      exact ⟨o, es, ep, back e (notA e d), d, r⟩
    have inB : K.In (hidT t.heap H) := fun b o e => back (inK b o e) (by
      cases q : H b with
      | none => rfl
      | some u =>
        obtain rfl : b = a := one b (by rw [q]; simp)
        rw [apart (by rw [q]; simp)] at e
        cases e)
    have module : Mod K mg (hidT t.heap H) :=
      ⟨inB, spaces names, ⟨mb, spaces own, boot⟩, let ⟨mc, h1, h2⟩ := noLim; ⟨mc, spaces h1, h2⟩⟩
    have e0 : Env0 P w K mg (hidT t.heap H) callerA [] t H :=
      ⟨rfl, module, fun b o e => of_hidT e, Nat.le_of_eq (hidT_size _ _), trivial,
        fun b hb => absurd (show b ∈ ([] : List Addr) from hb) (by simp), hok, .of_eq noGen⟩
    refine codeAny_mono ((F _ inB (spaces names)).does callerA [] t H ⟨[.ref a], []⟩ [.ref a] [.ref a] _ _ room rfl e0
      (bnd t (.ref a)) (.cons rfl .nil) (wish H only seq)) fun r s' h => ?_
    cases r with
    | error e => exact False.elim h
    | ok fl =>
      cases fl with
      | next => exact False.elim h
      | brk => exact False.elim h
      | cont => exact False.elim h
      | ret u =>
        obtain ⟨v, H', os, bare, un, hok', r', q⟩ := h
        obtain rfl : v = .bl true := q
        obtain rfl : u = Value.bool true := r'
        refine ⟨rfl, OldK.of_keep fun b o e => ?_, os, bare⟩
        cases q : H b with
        | none => exact un.keep b o e q (by intro z; exact absurd (show b ∈ ([] : List Addr) from z) (by simp)) (by simp)
        | some u =>
          rcases only b with z | ⟨ob', xs, z⟩
          · rw [q] at z
            cases z
          · have z2 := un.frzs b ob' _ z
            obtain ⟨e1, _⟩ := hok b _ z
            obtain ⟨e2, _⟩ := hok' b _ z2
            rw [e] at e1
            cases e1
            exact e2
  cases hk : K.lookup a with
  | some o =>
    have e := inK a o hk
    rw [ob] at e
    cases e
    refine main (fun _ => none) (fun _ => .inl rfl)
      (.inr ⟨_, vs.toArray, _, hk, rfl, rfl, rfl, by rw [List.size_toArray, size]; exact short, by simpa using rel⟩)
      (fun b u z => by have z' : (none : Option HO) = some u := z; cases z') (fun b z => absurd rfl z) fun z => absurd rfl z
  | none =>
    refine main (fun b => if b = a then some (.frz { cls := .type "list", data := .seq vs.toArray } (.lst (ns.map V.int))) else none)
      (fun b => ?_) (.inl (.inr ⟨_, if_pos rfl⟩)) (fun b u z => ?_) (fun b z => ?_) fun _ => hk
    · by_cases hb : b = a
      · exact .inr ⟨_, _, if_pos hb⟩
      · exact .inl (if_neg hb)
    · by_cases hb : b = a
      · have z' := (if_pos hb).symm.trans z
        cases z'
        subst hb
        exact ⟨ob, by rw [List.length_map]; exact short, vs, _, rel, ob⟩
      · have z' := (if_neg hb).symm.trans z
        cases z'
    · by_cases hb : b = a
      · exact hb
      · exact absurd (if_neg hb) z
/-- the end of a law's row -/
theorem walk_g {l : PySem.W.OpenLaw} {n k : Nat} {q : Program} {loose : List Str} {XP : (Str → Option Value) → Heap → Prop}
    {YP : World → Heap → Prop} {d : DefRec} {K : Params → PySem.W.Frag} {sp : PySem.W.Frag → Sp} {x : Str}
    (hn : l.most = some n) (hn2 : n ≤ sizeLine) (hdf : d.params.defaults = []) (room : Room k callerA)
    (hY : ∀ (w : World) (h : Heap), YP w h → (K w.params).In h)
    (F : ∀ (w : World) (mg : Str → Option Value) (fa : Addr) (h : Heap), (K w.params).In h → h.Ns mainGlobals mg →
      mg d.name = some (.ref fa) → ∃ fd : FuncData, (∀ (s : Shared) (u : Value), BindsTo s fd ⟨[u], []⟩ [(x, u)]) ∧
        ∀ base : Heap, (K w.params).In base → base.Ns mainGlobals mg →
          FnG l.prog w (K w.params) mg base CX0 k fa fd [x] (sp (K w.params)))
    (wish : ∀ (K : PySem.W.Frag) (H : Hp) (a : Addr) (ns : List Int), ns.length ≤ n → Only H → SqL K H a (ns.map V.int) →
      sp K [.ref a] H (fun v _ => v = .bl true) fun _ _ _ => False) :
    PySem.W.WalkO q loose XP YP l.row.toRowW d [] (fun f vs => PySem.call f vs) := by
  refine Att.attach_call hn hdf fun w s₀ t mg mb fa o pm cd doc a vs ns G Y ho hd hcd hmg hobj hints hlen hg => ?_
  have inK := hY w _ Y
  obtain ⟨fd, hb, hF⟩ := F w mg fa _ inK G.T.g hmg
  exact law_g inK G.T.g G.T.b G.T.builtins G.T.nolimit hg hobj hints (Nat.le_trans hlen hn2) room hF hb
    fun H hO hS => wish _ H a ns hlen hO hS
end My

set_option maxHeartbeats 2000000
namespace My
open PySem PySem.Spec PyProof.Rows L2
/-! ### data: what a value is, with the empty dict too -/
mutual
inductive Jd (K : PySem.W.Frag) (H : Hp) : V → PyData → Prop
  | non : Jd K H .non .none
  | bl (b : Bool) : Jd K H (.bl b) (.bool b)
  | int (i : Int) : Jd K H (.int i) (.int i)
  | str (x : Str) : Jd K H (.str x) (.str x)
  | lst {a : Addr} {xs : List V} {ds : List PyData} : SqL K H a xs → JdAll K H xs ds → Jd K H (.ref a) (.list ds)
  | tup {a : Addr} {xs : List V} {ds : List PyData} : SqT K H a xs → JdAll K H xs ds → Jd K H (.ref a) (.tuple ds)
  | dct {a : Addr} : H a = some (.dK []) → Jd K H (.ref a) (.dict [])
inductive JdAll (K : PySem.W.Frag) (H : Hp) : List V → List PyData → Prop
  | nil : JdAll K H [] []
  | cons {v : V} {vs : List V} {d : PyData} {ds : List PyData} : Jd K H v d → JdAll K H vs ds → JdAll K H (v :: vs) (d :: ds)
end
section
variable {K : PySem.W.Frag} {H H' : Hp}
theorem same_l {a : Addr} {xs : List V} (e : Same H H') (h : SqL K H a xs) : SqL K H' a xs := Evl.ex_l e h
theorem same_t {a : Addr} {xs : List V} (e : Same H H') (h : SqT K H a xs) : SqT K H' a xs := Evl.ex_t e h
mutual
theorem Jd.mono (e : Same H H') : ∀ (d : PyData) (v : V), Jd K H v d → Jd K H' v d
  | .none, _, h => by cases h; exact .non
  | .bool b, _, h => by cases h; exact .bl b
  | .int i, _, h => by cases h; exact .int i
  | .str x, _, h => by cases h; exact .str x
  | .list ds, _, h => by cases h with | lst s a => exact .lst (same_l e s) (JdAll.mono e ds _ a)
  | .tuple ds, _, h => by cases h with | tup s a => exact .tup (same_t e s) (JdAll.mono e ds _ a)
  | .dict _, _, h => by cases h with | dct s => exact .dct (e _ _ s)
theorem JdAll.mono (e : Same H H') : ∀ (ds : List PyData) (vs : List V), JdAll K H vs ds → JdAll K H' vs ds
  | [], _, h => by cases h; exact .nil
  | d :: ds, _, h => by cases h with | cons a b => exact .cons (Jd.mono e d _ a) (JdAll.mono e ds _ b)
end
def tyD : PyData → String
  | .none => "NoneType" | .bool _ => "bool" | .int _ => "int" | .str _ => "str" | .list _ => "list" | .tuple _ => "tuple" | .dict _ => "dict"
theorem tyx_l {a : Addr} {xs : List V} (h : SqL K H a xs) : TyX K H (.ref a) (.type "list") := by
  rcases h with (h | ⟨o, h⟩) | ⟨o, its, n, hl, hc, _⟩
  · exact .base (.lst h)
  · exact .base (.frz h)
  · exact .kList hl hc
theorem tyx_t {a : Addr} {xs : List V} (h : SqT K H a xs) : TyX K H (.ref a) (.type "tuple") := by
  rcases h with (h | ⟨o, h⟩) | ⟨o, its, n, hl, hc, _⟩
  · exact .base (.tup h)
  · exact .fTuple h
  · exact .kTuple hl hc
theorem Jd.ty {v : V} {d : PyData} (h : Jd K H v d) : TyX K H v (.type (tyD d)) := by
  cases h with
  | non => exact .base .non
  | bl b => exact .base (.bl b)
  | int i => exact .base (.int i)
  | str x => exact .base (.str x)
  | lst s a => exact tyx_l s
  | tup s a => exact tyx_t s
  | dct s => exact .base (.dK s)
/-! no dict within -/
mutual
def flatD : PyData → Bool
  | .list ds => flatDs ds
  | .tuple ds => flatDs ds
  | .dict _ => false
  | _ => true
def flatDs : List PyData → Bool
  | [] => true
  | d :: ds => flatD d && flatDs ds
end
mutual
theorem Jd.dp : ∀ (d : PyData) (v : V), flatD d = true → Jd K H v d → Dp K H v d
  | .none, _, _, h => by cases h; exact .non
  | .bool b, _, _, h => by cases h; exact .bl b
  | .int i, _, _, h => by cases h; exact .int i
  | .str x, _, _, h => by cases h; exact .str x
  | .list ds, _, f, h => by cases h with | lst s a => exact .lst s (JdAll.dp ds _ (by simpa [flatD] using f) a)
  | .tuple ds, _, f, h => by cases h with | tup s a => exact .tup s (JdAll.dp ds _ (by simpa [flatD] using f) a)
  | .dict _, _, f, h => by simp [flatD] at f
theorem JdAll.dp : ∀ (ds : List PyData) (vs : List V), flatDs ds = true → JdAll K H vs ds → DpAll K H vs ds
  | [], _, _, h => by cases h; exact .nil
  | d :: ds, _, f, h => by
    cases h with
    | cons a b =>
      simp only [flatDs, Bool.and_eq_true] at f
      exact .cons (Jd.dp d _ f.1 a) (JdAll.dp ds _ f.2 b)
end
theorem JdAll.length : ∀ {vs : List V} {ds : List PyData}, JdAll K H vs ds → vs.length = ds.length
  | _, _, .nil => rfl
  | _, _, .cons _ t => by simp [JdAll.length t]
theorem JdAll.get : ∀ {vs : List V} {ds : List PyData} {i : Nat} {v : V}, JdAll K H vs ds → vs[i]? = some v → ∃ d, ds[i]? = some d ∧ Jd K H v d
  | _, _, _, _, .nil, h => by simp at h
  | _, _, 0, _, .cons a _, h => by simp at h; subst h; exact ⟨_, rfl, a⟩
  | _, _, i + 1, _, .cons _ t, h => by
    obtain ⟨d, h1, h2⟩ := JdAll.get (i := i) t (by simpa using h)
    exact ⟨d, by simpa using h1, h2⟩
theorem JdAll.append : ∀ {vs ws : List V} {ds es : List PyData}, JdAll K H vs ds → JdAll K H ws es → JdAll K H (vs ++ ws) (ds ++ es)
  | _, _, _, _, .nil, h => h
  | _, _, _, _, .cons a t, h => .cons a (JdAll.append t h)
theorem jd_ints : ∀ ns : List Int, JdAll K H (ns.map V.int) (ns.map PyData.int)
  | [] => .nil
  | n :: ns => .cons (.int n) (jd_ints ns)
/-! ### expressions that make data, leaving all that is known -/
def MkD (K : PySem.W.Frag) (te : TE) (σ : St) (H : Hp) (d : PyData) : Prop :=
  ∀ H1, Same H H1 → ∀ Q : VK, (∀ v H2, Same H1 H2 → Jd K H2 v d → Q v H2) → te σ H1 Q
def MkA (K : PySem.W.Frag) (ta : TA) (σ : St) (H : Hp) (ds : List PyData) : Prop :=
  ∀ H1, Same H H1 → ∀ Q : List V → Hp → Prop, (∀ vs H2, Same H1 H2 → JdAll K H2 vs ds → Q vs H2) → ta σ H1 Q
variable {σ : St} {te ta tb : TE} {tA : TA} {d : PyData} {ds : List PyData}
theorem mk_var {i : Nat} {v : V} (h : σ[i]? = some (some v)) (j : Jd K H v d) : MkD K (tVar i) σ H d :=
  fun H1 e Q q => ⟨v, h, q v H1 (Same.refl _) (Jd.mono e d v j)⟩
theorem mk_c {v : V} (j : ∀ H, Jd K H v d) : MkD K (tC v) σ H d := fun H1 _ Q q => q v H1 (Same.refl _) (j H1)
theorem mk_int {i : Int} : MkD K (tC (.int i)) σ H (.int i) := mk_c fun _ => .int i
theorem mk_bool {b : Bool} : MkD K (tC (.bl b)) σ H (.bool b) := mk_c fun _ => .bl b
theorem mk_non : MkD K (tC .non) σ H .none := mk_c fun _ => .non
theorem mk_str {x : Str} : MkD K (tC (.str x)) σ H (.str x) := mk_c fun _ => .str x
theorem mka_nil : MkA K tNil σ H [] := fun H1 _ Q q => q [] H1 (Same.refl _) .nil
theorem mka_cons (h : MkD K te σ H d) (r : MkA K tA σ H ds) : MkA K (tCons te tA) σ H (d :: ds) := fun H1 e Q q =>
  h H1 e _ fun v H2 e2 j => r H2 (e.trans e2) _ fun vs H3 e3 js => q _ H3 (e2.trans e3) (.cons (Jd.mono e3 d v j) js)
theorem same_new {p : Addr} {o : HO} (h : H p = none) : Same H (upd H p o) := fun b u e => by
  rw [upd_ne (ne_of_none e h)]
  exact e
theorem mk_tup (h : MkA K tA σ H ds) (z : ds.length ≤ 100000) : MkD K (tTup tA) σ H (.tuple ds) := fun H1 e Q q =>
  h H1 e _ fun vs H2 e2 js => ⟨by rw [js.length]; exact Evl.sz_of z, fun p hp => q _ _ (e2.trans (same_new hp))
    (.tup (Or.inl (Or.inl upd_same)) (JdAll.mono (same_new hp) _ _ js))⟩
theorem mk_lst (h : MkA K tA σ H ds) (z : ds.length ≤ 100000) : MkD K (tLst tA) σ H (.list ds) := fun H1 e Q q =>
  h H1 e _ fun vs H2 e2 js => ⟨by rw [js.length]; exact Evl.sz_of z, fun p hp => q _ _ (e2.trans (same_new hp))
    (.lst (Or.inl (Or.inl upd_same)) (JdAll.mono (same_new hp) _ _ js))⟩
theorem mk_op {C : Int → Int → Prop} {g : Int → Int → Int} {i j : Int} (ha : MkD K ta σ H (.int i)) (hb : MkD K tb σ H (.int j)) (hc : C i j) :
    MkD K (tOp (rI C fun i j => .int (g i j)) ta tb) σ H (.int (g i j)) := fun H1 e Q q =>
  ha H1 e _ fun v H2 e2 jv => hb H2 (e.trans e2) _ fun w H3 e3 jw => by
    cases jv
    cases jw
    exact ⟨i, j, rfl, rfl, hc, q _ H3 (e2.trans e3) (.int _)⟩
theorem mk_op0 {g : Int → Int → Int} {i j : Int} (ha : MkD K ta σ H (.int i)) (hb : MkD K tb σ H (.int j)) :
    MkD K (tOp (rI0 fun i j => .int (g i j)) ta tb) σ H (.int (g i j)) := fun H1 e Q q =>
  ha H1 e _ fun v H2 e2 jv => hb H2 (e.trans e2) _ fun w H3 e3 jw => by
    cases jv
    cases jw
    exact ⟨i, j, rfl, rfl, q _ H3 (e2.trans e3) (.int _)⟩
theorem mk_neg {i : Int} (ha : MkD K ta σ H (.int i)) : MkD K (tUn (rU fun i => .int (-i)) ta) σ H (.int (-i)) := fun H1 e Q q =>
  ha H1 e _ fun v H2 e2 jv => by
    cases jv
    exact ⟨i, rfl, q _ H2 e2 (.int _)⟩
theorem MkD.now {Q : VK} (h : MkD K te σ H d) (q : ∀ v H2, Same H H2 → Jd K H2 v d → Q v H2) : te σ H Q := h H (Same.refl _) Q q
theorem if_pos_of {c : Bool} {A B : Prop} (hc : c = true) (h : A) : if c = true then A else B := by
  rw [if_pos hc]
  exact h
theorem if_neg_of {c : Bool} {A B : Prop} (hc : c = false) (h : B) : if c = true then A else B := by
  rw [hc, if_neg Bool.false_ne_true]
  exact h
/-! ### isinstance of data -/
def isT (d : PyData) (n : String) : Option Bool := kitB (tyD d) n
theorem isi_of {v : V} {d : PyData} {n : String} {b : Bool} {Q : VK} (j : Jd K H v d) (e : kitB (tyD d) n = some b) (q : Q (.bl b) H) :
    rIsi K [v, .ty n] H Q := ⟨v, .ty n, _, _, b, rfl, .ty n, j.ty, kit_ty e, q⟩
end
/-! ### a drawer of numbers: a list of three -/
def Bag (H : Hp) (b : Addr) : Prop := ∃ x y z : Int, H b = some (.lst [.int x, .int y, .int z]) ∧ 0 ≤ x ∧ 0 ≤ y ∧ y < 2305843009213693951
/-- all but the drawer stays -/
def But (b : Addr) (H H' : Hp) : Prop := ∀ a o, H a = some o → a ≠ b → H' a = some o
theorem But.refl (b : Addr) (H : Hp) : But b H H := fun _ _ h _ => h
theorem But.trans {b : Addr} {H H1 H2 : Hp} (x : But b H H1) (y : But b H1 H2) : But b H H2 := fun a o h n => y a o (x a o h n) n
theorem But.of {b : Addr} {H H' : Hp} (e : Same H H') : But b H H' := fun a o h _ => e a o h
theorem But.put {b : Addr} {H : Hp} {o : HO} : But b H (upd H b o) := fun a u h n => by rw [upd_ne n]; exact h
theorem But.l {K : PySem.W.Frag} {b a : Addr} {H H' : Hp} {xs : List V} (e : But b H H') (n : a ≠ b) (h : SqL K H a xs) : SqL K H' a xs := by
  rcases h with (h | ⟨o, h⟩) | h
  · exact Or.inl (Or.inl (e a _ h n))
  · exact Or.inl (Or.inr ⟨o, e a _ h n⟩)
  · exact Or.inr h
theorem But.t {K : PySem.W.Frag} {b a : Addr} {H H' : Hp} {xs : List V} (e : But b H H') (bag : Bag H b) (h : SqT K H a xs) : SqT K H' a xs := by
  obtain ⟨x, y, z, hb, _⟩ := bag
  rcases h with (h | ⟨o, h⟩) | h
  · exact Or.inl (Or.inl (e a _ h (ne_of h hb (by intro q; cases q))))
  · exact Or.inl (Or.inr ⟨o, e a _ h (ne_of h hb (by intro q; cases q))⟩)
  · exact Or.inr h
theorem Bag.same {H H' : Hp} {b : Addr} (e : Same H H') (h : Bag H b) : Bag H' b := by
  obtain ⟨x, y, z, hb, r⟩ := h
  exact ⟨x, y, z, e _ _ hb, r⟩
theorem Bag.ne {H : Hp} {b a : Addr} (h : Bag H b) (n : H a = none) : a ≠ b := by
  obtain ⟨x, y, z, hb, r⟩ := h
  exact (ne_of_none hb n).symm
end My

set_option maxHeartbeats 2000000
namespace My
open PySem PySem.Spec PyProof.Rows L2
section
variable {K : PySem.W.Frag} {σ : St} {H : Hp} {te t0 : TE} {vs : List Nat} {i : Nat} {Q : VK}
theorem take_next {α : Type} {l : List α} {k : Nat} {y : α} (h : l[k]? = some y) : l.take (k + 1) = l.take k ++ [y] := by
  rw [List.take_succ, h]
  rfl
theorem yes_of {σ : St} {H : Hp} {A B : Hp → Prop} (h : A H) : tYes σ H (fun b H3 => if b = true then A H3 else B H3) := by
  unfold tYes
  exact iteT h
/-- [e for x in t], each e a known value, all that is known stays -/
theorem comp_t {a : Addr} {xs : List V} (ys : List V) (hl : ys.length = xs.length) (hz : xs.length < 100000) (hT : SqT K H a xs)
    (hw : ∀ x, wipe ((wipe σ vs).set i (some x)) vs = wipe σ vs)
    (hel : ∀ (k : Nat) x y H1, xs[k]? = some x → ys[k]? = some y → Same H H1 → ∀ Q' : VK, (∀ H2, Same H1 H2 → Q' y H2) → te ((wipe σ vs).set i (some x)) H1 Q')
    (q : ∀ D H', Same H H' → H D = none → H' D = some (.lst ys) → Q (.ref D) H') (h0 : ∀ Q' : VK, Q' (.ref a) H → t0 σ H Q') :
    tLc (iTup K t0) (gName i) tYes te vs σ H Q := by
  refine h0 _ ⟨a, rfl, ⟨_, hT⟩, fun D hD => ?_⟩
  refine lc_tup (K := K) (a := a) (xs := xs) (fun k H' => Same H H' ∧ H' D = some (.lst (ys.take k))) ⟨same_new hD, upd_same⟩ (fun k H' _ h => same_t h.1 hT) ?_ ?_
  · rintro k x H1 hx ⟨e1, hL⟩
    have hk : k < xs.length := (List.getElem?_eq_some_iff.mp hx).1
    obtain ⟨y, hy⟩ : ∃ y, ys[k]? = some y := ⟨_, List.getElem?_eq_getElem (by omega)⟩
    refine ⟨hw x, ?_⟩
    refine yes_of (hel k x y H1 hx hy e1 _ fun H2 e2 => ⟨_, e2 _ _ hL, ?_, ?_, ?_⟩)
    · rw [List.length_take]
      exact Evl.sz_lt (by omega)
    · intro b u e
      rw [upd_ne (ne_of_none e hD)]
      exact e2 _ _ (e1 _ _ e)
    · rw [upd_same, take_next hy]
  · rintro H1 ⟨e1, hL⟩
    rw [← hl, List.take_length] at hL
    exact q D H1 e1 hD hL
theorem comp_l {a : Addr} {xs : List V} (ys : List V) (hl : ys.length = xs.length) (hz : xs.length < 100000) (hT : SqL K H a xs)
    (hw : ∀ x, wipe ((wipe σ vs).set i (some x)) vs = wipe σ vs)
    (hel : ∀ (k : Nat) x y H1, xs[k]? = some x → ys[k]? = some y → Same H H1 → ∀ Q' : VK, (∀ H2, Same H1 H2 → Q' y H2) → te ((wipe σ vs).set i (some x)) H1 Q')
    (q : ∀ D H', Same H H' → H D = none → H' D = some (.lst ys) → Q (.ref D) H') (h0 : ∀ Q' : VK, Q' (.ref a) H → t0 σ H Q') :
    tLc (iList K t0) (gName i) tYes te vs σ H Q := by
  refine h0 _ ⟨a, rfl, ⟨_, hT⟩, fun D hD => ?_⟩
  refine lc_list (K := K) (a := a) (xs := xs) (fun k H' => Same H H' ∧ H' D = some (.lst (ys.take k))) ⟨same_new hD, upd_same⟩ (fun k H' _ h => same_l h.1 hT) ?_ ?_
  · rintro k x H1 hx ⟨e1, hL⟩
    have hk : k < xs.length := (List.getElem?_eq_some_iff.mp hx).1
    obtain ⟨y, hy⟩ : ∃ y, ys[k]? = some y := ⟨_, List.getElem?_eq_getElem (by omega)⟩
    refine ⟨hw x, ?_⟩
    refine yes_of (hel k x y H1 hx hy e1 _ fun H2 e2 => ⟨_, e2 _ _ hL, ?_, ?_, ?_⟩)
    · rw [List.length_take]
      exact Evl.sz_lt (by omega)
    · intro b u e
      rw [upd_ne (ne_of_none e hD)]
      exact e2 _ _ (e1 _ _ e)
    · rw [upd_same, take_next hy]
  · rintro H1 ⟨e1, hL⟩
    rw [← hl, List.take_length] at hL
    exact q D H1 e1 hD hL
/-- [e for k in range(n)], the drawer turned by each e: what is made keeps Pv -/
theorem comp_b {b : Addr} {n : Nat} (hz : n < 100000) (bag : Bag H b) (Ok : V → Prop) (lo : Int)
    (hw : ∀ x, wipe ((wipe σ vs).set i (some x)) vs = wipe σ vs)
    (hel : ∀ (k : Nat) H1, k < n → But b H H1 → Bag H1 b → ∀ Q' : VK, (∀ y H2, Ok y → But b H1 H2 → Bag H2 b → Q' y H2) → te ((wipe σ vs).set i (some (.int (lo + k)))) H1 Q')
    (q : ∀ D ys H', But b H H' → Bag H' b → D ≠ b → H D = none → ys.length = n → (∀ y ∈ ys, Ok y) → H' D = some (.lst ys) → Q (.ref D) H') :
    ∀ D, H D = none → ∃ W : Nat → Nat → Hp → Prop, (∃ m, W 0 m (upd H D (.lst []))) ∧ ∀ k m H1, W k m H1 →
      ((Itr lo n).stop k H1 ∧ Q (.ref D) H1) ∨ ((Itr lo n).go k H1 ∧ ∃ Nx : Hp → Prop, (∀ H', Nx H' → ∃ m', m' < m ∧ W (k + 1) m' H') ∧
        ∀ x H', (Itr lo n).yld k H1 x H' → gName i x (wipe σ vs) H' fun σ2 H2 => wipe σ2 vs = wipe σ vs ∧ tYes σ2 H2 fun b H3 =>
          if b = true then te σ2 H3 fun y H4 => ∃ acc, H4 D = some (.lst acc) ∧ acc.length < sizeLine ∧ Nx (upd H4 D (.lst (acc ++ [y]))) else Nx H3) := by
  intro D hD
  have hDb : D ≠ b := bag.ne hD
  refine lc_range (lo := lo) (n := n) (fun k H' => But b H H' ∧ Bag H' b ∧ ∃ ys : List V, ys.length = k ∧ (∀ y ∈ ys, Ok y) ∧ H' D = some (.lst ys))
    ⟨But.of (same_new hD), bag.same (same_new hD), [], rfl, fun y h => absurd h List.not_mem_nil, upd_same⟩ ?_ ?_
  · rintro k H1 hk ⟨e1, b1, ys, hy, ok, hL⟩
    refine ⟨hw _, ?_⟩
    refine yes_of (hel k H1 hk e1 b1 _ fun y H2 oy e2 b2 => ⟨ys, e2 _ _ hL hDb, Evl.sz_lt (by omega), ?_, ?_, ys ++ [y], ?_, ?_, upd_same⟩)
    · intro c u e n
      rw [upd_ne (ne_of_none e hD)]
      exact e2 _ _ (e1 _ _ e n) n
    · obtain ⟨x, y', z, hb, r⟩ := b2
      exact ⟨x, y', z, by rw [upd_ne (Ne.symm hDb)]; exact hb, r⟩
    · rw [List.length_append, hy]
      rfl
    · intro z hz'
      rcases List.mem_append.mp hz' with h | h
      · exact ok z h
      · rw [List.mem_singleton.mp h]
        exact oy
  · rintro H1 ⟨e1, b1, ys, hy, ok, hL⟩
    exact q D ys H1 e1 b1 hDb hD hy ok hL
/-- [e for k in range(m)], the drawer turned by each e -/
theorem comp_r {b : Addr} {m : Int} {ta : TA} (h1 : 0 ≤ m) (h2 : m < 100000) (bag : Bag H b) (Ok : V → Prop)
    (hw : ∀ x, wipe ((wipe σ vs).set i (some x)) vs = wipe σ vs)
    (hel : ∀ (k : Nat) H1, (k : Int) < m → But b H H1 → Bag H1 b → ∀ Q' : VK, (∀ y H2, Ok y → But b H1 H2 → Bag H2 b → Q' y H2) → te ((wipe σ vs).set i (some (.int (0 + k)))) H1 Q')
    (q : ∀ D ys H', But b H H' → Bag H' b → D ≠ b → H D = none → (ys.length : Int) = m → (∀ y ∈ ys, Ok y) → H' D = some (.lst ys) → Q (.ref D) H')
    (h0 : ∀ Q' : List V → Hp → Prop, Q' [.int m] H → ta σ H Q') :
    tLc (iRng1 ta) (gName i) tYes te vs σ H Q := by
  refine h0 _ ⟨m, rfl, by omega, by omega, ?_⟩
  refine comp_b (b := b) (n := m.toNat) (by omega) bag Ok 0 hw (fun k H1 hk => hel k H1 (by omega)) fun D ys H' e1 b1 n1 hD hl => q D ys H' e1 b1 n1 hD (by omega)
end
theorem Bag.upd {H : Hp} {b p : Addr} {o : HO} (h : Bag H b) (n : H p = none) : Bag (upd H p o) b := h.same (same_new n)
end My

set_option maxHeartbeats 400000
namespace My
open PySem PySem.Spec PyProof.Rows L2
section
variable {K : PySem.W.Frag} {σ : St} {H : Hp} {te ta tb : TE} {tA : TA} {ds es : List PyData}
def MkL (K : PySem.W.Frag) (te : TE) (σ : St) (H : Hp) (ds : List PyData) : Prop :=
  ∀ H1, Same H H1 → ∀ Q : VK, (∀ p vs H2, Same H1 H2 → H1 p = none → H2 p = some (.lst vs) → JdAll K H2 vs ds → Q (.ref p) H2) → te σ H1 Q
theorem mkl_lst (h : MkA K tA σ H ds) (z : ds.length ≤ 100000) : MkL K (tLst tA) σ H ds := fun H1 e Q q =>
  h H1 e _ fun vs H2 e2 js => ⟨by rw [js.length]; exact Evl.sz_of z, fun p hp => q p vs _ (e2.trans (same_new hp)) (e2.free hp) upd_same (JdAll.mono (same_new hp) _ _ js)⟩
theorem mkl_cat {i : Nat} {p : Addr} {vs : List V} (hv : σ[i]? = some (some (.ref p))) (hp : H p = some (.lst vs)) (j : JdAll K H vs ds) (hb : MkL K tb σ H es)
    (z : ds.length + es.length ≤ 100000) : MkL K (tOp rCat (tVar i) tb) σ H (ds ++ es) := fun H1 e Q q =>
  ⟨_, hv, hb H1 e _ fun r ws H2 e2 hr hw js => ⟨p, r, vs, ws, rfl, rfl, e2 _ _ (e _ _ hp), hw,
    by rw [j.length, js.length]; exact Evl.sz_of z,
    fun u hu => q u _ _ (e2.trans (same_new hu)) (e2.free hu) upd_same
      (JdAll.append (JdAll.mono (e.trans (e2.trans (same_new hu))) _ _ j) (JdAll.mono (same_new hu) _ _ js))⟩⟩
theorem MkL.now {Q : VK} (h : MkL K te σ H ds) (q : ∀ p vs H2, Same H H2 → H p = none → H2 p = some (.lst vs) → JdAll K H2 vs ds → Q (.ref p) H2) : te σ H Q := h H (Same.refl _) Q q
theorem mk_dct : MkD K tDNewK σ H (.dict []) := fun H1 e Q q p hp => q _ _ (same_new hp) (.dct upd_same)
theorem mk_lst' (h : MkL K te σ H ds) : MkD K te σ H (.list ds) := fun H1 e Q q =>
  h H1 e _ fun p vs H2 e2 _ hp js => q _ _ e2 (.lst (Or.inl (Or.inl hp)) js)
theorem st_mkl {i : Nat} {D : Ends} (h : MkL K te σ H ds) (q : ∀ p vs H2, Same H H2 → H p = none → H2 p = some (.lst vs) → JdAll K H2 vs ds → D.nx (σ.set i (some (.ref p))) H2) :
    tAsg te (gName i) D σ H := h H (Same.refl _) _ q
/-! ### the same, what they are left open -/
def MkI (K : PySem.W.Frag) (te : TE) (σ : St) (H : Hp) : Prop := ∃ i, MkD K te σ H (.int i)
def MkX (K : PySem.W.Frag) (te : TE) (σ : St) (H : Hp) : Prop := ∃ d, MkD K te σ H d
def MkXA (K : PySem.W.Frag) (tA : TA) (σ : St) (H : Hp) (n : Nat) : Prop := ∃ ds, MkA K tA σ H ds ∧ ds.length = n
def MkXL (K : PySem.W.Frag) (te : TE) (σ : St) (H : Hp) (n : Nat) : Prop := ∃ ds, MkL K te σ H ds ∧ ds.length = n
theorem mi_int {i : Int} : MkI K (tC (.int i)) σ H := ⟨i, mk_int⟩
theorem mi_var {j : Nat} {i : Int} (h : σ[j]? = some (some (.int i))) : MkI K (tVar j) σ H := ⟨i, mk_var h (.int i)⟩
theorem mi_op0 {g : Int → Int → Int} (ha : MkI K ta σ H) (hb : MkI K tb σ H) : MkI K (tOp (rI0 fun i j => .int (g i j)) ta tb) σ H := by
  obtain ⟨i, ha⟩ := ha
  obtain ⟨j, hb⟩ := hb
  exact ⟨_, mk_op0 ha hb⟩
theorem mi_opc {C : Int → Int → Prop} {g : Int → Int → Int} {i : Int} (hb : MkI K tb σ H) (hc : ∀ j, C i j) : MkI K (tOp (rI C fun i j => .int (g i j)) (tC (.int i)) tb) σ H := by
  obtain ⟨j, hb⟩ := hb
  exact ⟨_, mk_op mk_int hb (hc j)⟩
theorem mi_opk {C : Int → Int → Prop} {g : Int → Int → Int} {i j : Int} (hc : C i j) : MkI K (tOp (rI C fun i j => .int (g i j)) (tC (.int i)) (tC (.int j))) σ H := ⟨_, mk_op mk_int mk_int hc⟩
theorem mi_neg (ha : MkI K ta σ H) : MkI K (tUn (rU fun i => .int (-i)) ta) σ H := by
  obtain ⟨i, ha⟩ := ha
  exact ⟨_, mk_neg ha⟩
theorem MkI.x (h : MkI K te σ H) : MkX K te σ H := let ⟨i, h⟩ := h; ⟨_, h⟩
theorem mx_bool {b : Bool} : MkX K (tC (.bl b)) σ H := ⟨_, mk_bool⟩
theorem mx_non : MkX K (tC .non) σ H := ⟨_, mk_non⟩
theorem mx_str {x : Str} : MkX K (tC (.str x)) σ H := ⟨_, mk_str⟩
theorem mx_dct : MkX K tDNewK σ H := ⟨_, mk_dct⟩
theorem mxa_nil : MkXA K tNil σ H 0 := ⟨[], mka_nil, rfl⟩
theorem mxa_cons {n : Nat} (h : MkX K te σ H) (r : MkXA K tA σ H n) : MkXA K (tCons te tA) σ H (n + 1) := by
  obtain ⟨d, h⟩ := h
  obtain ⟨ds, r, e⟩ := r
  exact ⟨d :: ds, mka_cons h r, by rw [List.length_cons, e]⟩
theorem mx_tup {n : Nat} (h : MkXA K tA σ H n) (z : n ≤ 100000) : MkX K (tTup tA) σ H := by
  obtain ⟨ds, h, e⟩ := h
  exact ⟨_, mk_tup h (by omega)⟩
theorem mx_lst {n : Nat} (h : MkXA K tA σ H n) (z : n ≤ 100000) : MkX K (tLst tA) σ H := by
  obtain ⟨ds, h, e⟩ := h
  exact ⟨_, mk_lst h (by omega)⟩
theorem mxl_lst {n : Nat} (h : MkXA K tA σ H n) (z : n ≤ 100000) : MkXL K (tLst tA) σ H n := by
  obtain ⟨ds, h, e⟩ := h
  exact ⟨_, mkl_lst h (by omega), e⟩
theorem mxl_cat {n : Nat} {i : Nat} {p : Addr} {vs : List V} (hv : σ[i]? = some (some (.ref p))) (hp : H p = some (.lst vs)) (j : JdAll K H vs ds) (hb : MkXL K tb σ H n)
    (z : ds.length + n ≤ 100000) : MkXL K (tOp rCat (tVar i) tb) σ H (ds.length + n) := by
  obtain ⟨es, hb, e⟩ := hb
  exact ⟨_, mkl_cat hv hp j hb (by omega), by rw [List.length_append, e]⟩
theorem st_mkx {n i : Nat} {D : Ends} (h : MkXL K te σ H n) (q : ∀ p vs ds H2, Same H H2 → H p = none → H2 p = some (.lst vs) → JdAll K H2 vs ds → ds.length = n → D.nx (σ.set i (some (.ref p))) H2) :
    tAsg te (gName i) D σ H := by
  obtain ⟨ds, h, e⟩ := h
  exact st_mkl h fun p vs H2 a b c d => q p vs ds H2 a b c d e
end
end My

set_option maxHeartbeats 1000000
namespace My
open PySem PySem.Spec PyProof.Rows L2
theorem tuple_mul0 (l : Addr) (its : Array Value) (m : Nat) (dc : Option Addr) (sl : Array (Option Value)) (u : Tok) (c1 : (its.isEmpty || (0 : Int) == 1) = false) :
    Meets (Builtin.«tuple.__mul__» ⟨[.ref l, .int 0 u], []⟩) (fun _ R s =>
      s.heap.get? l = some { cls := .type "tuple", dict := dc, data := .seq its m, slots := sl } ∧
      R (.ok (.ret (Value.ref s.heap.objs.size))) { s with heap := s.heap.push { cls := Value.type "tuple", data := Data.seq #[] }, toks := s.toks }) :=
  .of_wp fun prog w A R s h => by
    obtain ⟨hp, g, d, tk, os⟩ := s
    obtain ⟨hl, h⟩ := h
    have f1 := AutoSeq1.idx_int
    wp_walk using wpAny_loadPart' hl
    repeat (first
      | (refine wpAny_ite_false (decide_eq_false (by decide)) ?_; wp_walk using wpAny_loadPart' hl)
      | (refine wpAny_ite_false (decide_eq_false (by rw [c1]; exact Bool.false_ne_true)) ?_; wp_walk using wpAny_loadPart' hl)
      | (refine wpAny_ite_true (decide_eq_true (by simp)) ?_; wp_walk using wpAny_loadPart' hl))
    exact ⟨_, rfl, h⟩
/-- a tuple, no times -/
def rRepZ (K : PySem.W.Frag) : R2 := fun x y H Q => ∃ l xs, x = .ref l ∧ y = .int 0 ∧ SqT K H l xs ∧ xs ≠ [] ∧ ∀ p, H p = none → Q (.ref p) (upd H p (.tup []))
def rRepB (K : PySem.W.Frag) : R2 := fun x y H Q => rRepT K x y H Q ∨ rRepZ K x y H Q
section
variable {X : Cx}
theorem op_repZ : OpR X (binaryOp .Mult) (rRepZ X.K) := by
  intro pins s σ H x y v u Q I rx ry h
  obtain ⟨l, xs, rfl, rfl, hT, some1, q⟩ := h
  cases rx
  obtain ⟨t, rfl⟩ := ry
  obtain ⟨its, r, ⟨⟨cls, dc, data, sl⟩, ho, hc, n, hd⟩, hs⟩ := I.tuple hT
  simp only at hc hd
  subst hc hd
  have full : its.toArray.isEmpty = false := by
    cases r with
    | nil => exact absurd rfl some1
    | cons a b => rfl
  have c1 : (its.toArray.isEmpty || (0 : Int) == 1) = false := by rw [full]; rfl
  refine wpAny_binaryOp_repeat_ref (T := "tuple") (U := "int") (by decide) ⟨_, ho, rfl⟩ (fun s' => typeIs_int s' 0 t)
    noFill_tuple_mul F.fills_int_mul F.slot_int_rmul repeat_tuple F.slot_int_index.lookup ?_
  refine call_meets F.slot_int_rmul (typeIs_int s 0 t) F.entry_int_rmul (F.args_int_rmul_2 _ _) (int_rmul_tuple 0 t l its.toArray n dc sl) ⟨ho, rfl, ⟨_, ho, rfl⟩, ?_⟩
  refine call_meets F.slot_tuple_mul ⟨_, ho, rfl⟩ F.entry_tuple_mul (F.args_tuple_mul_2 _ _) (tuple_mul0 l its.toArray n dc sl t c1) ⟨ho, ?_⟩
  refine ⟨.ref s.heap.objs.size, _, I.laid (t' := s.toks) (o := .tup []) (fun b ob q => Heap.get?_push_of_some _ q) (Nat.le_refl _) ?_, rfl,
    q _ (I.hok.fresh (Nat.le_refl _))⟩
  exact ⟨Nat.zero_le _, [], .nil, IsTup.new _ _⟩
theorem op_repB : OpR X (binaryOp .Mult) (rRepB X.K) := by
  intro pins s σ H x y v u Q I rx ry h
  rcases h with h | h
  · exact op_repT pins s σ H x y v u Q I rx ry h
  · exact op_repZ pins s σ H x y v u Q I rx ry h
end
theorem But.none {b : Addr} {H H' : Hp} (e : But b H H') {p : Addr} (n : H' p = none) (bag' : Bag H' b) : H p = none := by
  cases h : H p with
  | none => rfl
  | some o =>
    by_cases hp : p = b
    · subst hp
      obtain ⟨x, y, z, hb, _⟩ := bag'
      rw [hb] at n
      cases n
    · rw [e p o h hp] at n
      cases n
section
variable {K : PySem.W.Frag} {σ : St} {H : Hp} {te t0 : TE} {vs : List Nat} {i : Nat} {Q : VK}
/-- [e for k in range(m)], the drawer turned by m and by each e -/
theorem comp_rb {b : Addr} {ta : TA} (Pm : Int → Prop) (Ok : V → Prop)
    (hw : ∀ x, wipe ((wipe σ vs).set i (some x)) vs = wipe σ vs)
    (hel : ∀ (x : V) H1, But b H H1 → Bag H1 b → ∀ Q' : VK, (∀ y H2, Ok y → But b H1 H2 → Bag H2 b → Q' y H2) → te ((wipe σ vs).set i (some x)) H1 Q')
    (q : ∀ D ys H', But b H H' → Bag H' b → D ≠ b → H D = none → Pm (ys.length : Int) → (∀ y ∈ ys, Ok y) → H' D = some (.lst ys) → Q (.ref D) H')
    (h0 : ∀ Q' : List V → Hp → Prop, (∀ m H2, 0 ≤ m → m < 100000 → Pm m → But b H H2 → Bag H2 b → Q' [.int m] H2) → ta σ H Q') :
    tLc (iRng1 ta) (gName i) tYes te vs σ H Q := by
  refine h0 _ fun m H2 h1 h2 pm e2 b2 => ⟨m, rfl, by omega, by omega, ?_⟩
  refine comp_b (b := b) (n := m.toNat) (by omega) b2 Ok 0 hw (fun k H1 hk e1 b1 => hel _ H1 (e2.trans e1) b1) fun D ys H' e1 b1 n1 hD hl => ?_
  refine q D ys H' (e2.trans e1) b1 n1 (e2.none hD b2) ?_
  have e : (ys.length : Int) = m := by omega
  rw [e]
  exact pm
end
theorem oks_ints {z : Nat} : ∀ ys : List V, (∀ y ∈ ys, ∃ n : Int, y = .int n ∧ n.natAbs ≤ z) → ∃ ns : List Int, ys = ns.map V.int ∧ ∀ n ∈ ns, n.natAbs ≤ z
  | [], _ => ⟨[], rfl, fun _ h => absurd h List.not_mem_nil⟩
  | y :: ys, h => by
    obtain ⟨n, rfl, hn⟩ := h y List.mem_cons_self
    obtain ⟨ns, rfl, hs⟩ := oks_ints ys fun y' hy => h y' (List.mem_cons_of_mem _ hy)
    refine ⟨n :: ns, rfl, fun m hm => ?_⟩
    rcases List.mem_cons.mp hm with h | h
    · rw [h]
      exact hn
    · exact hs m h
theorem rep_zero (k : Nat) : (List.replicate k [V.int 0]).flatten = (List.replicate k (0 : Int)).map V.int := by
  induction k with
  | zero => rfl
  | succ k ih => rw [List.replicate_succ, List.flatten_cons, ih, List.replicate_succ]; rfl
end My

namespace M01
/-- the greatest divisor, number by number -/
def gcdL (ns : List Int) : Int := ns.foldl (fun f n => ((Nat.gcd f.natAbs n.natAbs : Nat) : Int)) 0
theorem gcdL_two (t b : Int) : gcdL [t, b] = ((Nat.gcd t.natAbs b.natAbs : Nat) : Int) := by
  show ((Nat.gcd (((Nat.gcd (0 : Int).natAbs t.natAbs : Nat) : Int)).natAbs b.natAbs : Nat) : Int) = _
  simp
theorem gcdL_snoc (ns : List Int) (n : Int) : gcdL (ns ++ [n]) = ((Nat.gcd (gcdL ns).natAbs n.natAbs : Nat) : Int) := by
  unfold gcdL
  rw [List.foldl_append]
  rfl
theorem gcdL_nonneg (ns : List Int) : 0 ≤ gcdL ns := by
  unfold gcdL
  suffices ∀ (l : List Int) (z : Int), 0 ≤ z → 0 ≤ l.foldl (fun f n => ((Nat.gcd f.natAbs n.natAbs : Nat) : Int)) z from this ns 0 (by omega)
  intro l
  induction l with
  | nil => intro z h; exact h
  | cons a l ih => intro z h; exact ih _ (Int.natCast_nonneg _)
def shareOf (t b : Int) : Int := if b < 0 then -(gcdL [t, b]) else gcdL [t, b]
def low (t b : Int) : Int × Int := (t.fdiv (shareOf t b), b.fdiv (shareOf t b))
theorem share_abs (t b : Int) : (shareOf t b).natAbs = Nat.gcd t.natAbs b.natAbs := by
  unfold shareOf
  rw [gcdL_two]
  split <;> omega
theorem gcd_pos {t b : Int} (h : b ≠ 0) : 0 < Nat.gcd t.natAbs b.natAbs := Nat.gcd_pos_of_pos_right _ (by omega)
theorem share_ne {t b : Int} (h : b ≠ 0) : shareOf t b ≠ 0 := by
  have h1 := share_abs t b
  have h2 := gcd_pos (t := t) h
  omega
theorem share_le {t b : Int} (h : b ≠ 0) : (shareOf t b).natAbs ≤ b.natAbs := by
  rw [share_abs]
  exact Nat.le_of_dvd (by omega) (Nat.gcd_dvd_right _ _)
theorem share_dvd_t (t b : Int) : shareOf t b ∣ t := by
  rw [← Int.natAbs_dvd_natAbs, share_abs]
  exact Nat.gcd_dvd_left _ _
theorem share_dvd_b (t b : Int) : shareOf t b ∣ b := by
  rw [← Int.natAbs_dvd_natAbs, share_abs]
  exact Nat.gcd_dvd_right _ _
theorem fdiv_mul {a s : Int} (h : s ∣ a) : a.fdiv s * s = a := Int.fdiv_mul_cancel h
theorem low_t (t b : Int) : (low t b).1 * shareOf t b = t := fdiv_mul (share_dvd_t t b)
theorem low_b (t b : Int) : (low t b).2 * shareOf t b = b := fdiv_mul (share_dvd_b t b)
theorem low_pos {t b : Int} (h : b ≠ 0) : 0 < (low t b).2 := by
  have e := low_b t b
  have g := gcd_pos (t := t) h
  have hs : (b < 0 → shareOf t b < 0) ∧ (0 < b → 0 < shareOf t b) := by
    unfold shareOf
    rw [gcdL_two]
    constructor
    · intro c
      rw [if_pos c]
      omega
    · intro c
      rw [if_neg (by omega)]
      omega
  rcases Int.lt_or_gt_of_ne h with c | c
  · have s := hs.1 c
    rcases Int.lt_or_le 0 (low t b).2 with k | k
    · exact k
    · have : 0 ≤ (low t b).2 * shareOf t b := Int.mul_nonneg_of_nonpos_of_nonpos k (by omega)
      omega
  · have s := hs.2 c
    rcases Int.lt_or_le 0 (low t b).2 with k | k
    · exact k
    · have : (low t b).2 * shareOf t b ≤ 0 := Int.mul_nonpos_of_nonpos_of_nonneg k (by omega)
      omega
theorem low_gcd {t b : Int} (h : b ≠ 0) : Nat.gcd (low t b).1.natAbs (low t b).2.natAbs = 1 := by
  have e1 := congrArg Int.natAbs (low_t t b)
  have e2 := congrArg Int.natAbs (low_b t b)
  rw [Int.natAbs_mul, share_abs] at e1 e2
  have g := gcd_pos (t := t) h
  have q : Nat.gcd ((low t b).1.natAbs * Nat.gcd t.natAbs b.natAbs) ((low t b).2.natAbs * Nat.gcd t.natAbs b.natAbs) = Nat.gcd t.natAbs b.natAbs := by
    rw [e1, e2]
  rw [Nat.gcd_mul_right] at q
  exact Nat.eq_of_mul_eq_mul_right g (by rw [q, Nat.one_mul])
theorem low_le_t (t b : Int) (h : b ≠ 0) : (low t b).1.natAbs ≤ t.natAbs := by
  have e1 := congrArg Int.natAbs (low_t t b)
  rw [Int.natAbs_mul, share_abs] at e1
  have g := gcd_pos (t := t) h
  rw [← e1]
  exact Nat.le_mul_of_pos_right _ g
theorem low_le_b (t b : Int) (h : b ≠ 0) : (low t b).2.natAbs ≤ b.natAbs := by
  have e1 := congrArg Int.natAbs (low_b t b)
  rw [Int.natAbs_mul, share_abs] at e1
  have g := gcd_pos (t := t) h
  rw [← e1]
  exact Nat.le_mul_of_pos_right _ g
theorem unique {p q p' q' : Int} (hq : 0 < q) (hq' : 0 < q') (g : Nat.gcd p.natAbs q.natAbs = 1) (g' : Nat.gcd p'.natAbs q'.natAbs = 1) (e : p * q' = p' * q) : p = p' ∧ q = q' := by
  have en := congrArg Int.natAbs e
  rw [Int.natAbs_mul, Int.natAbs_mul] at en
  have d1 : q.natAbs ∣ q'.natAbs := by
    have : q.natAbs ∣ p.natAbs * q'.natAbs := en ▸ Nat.dvd_mul_left _ _
    exact Nat.Coprime.dvd_of_dvd_mul_left (show Nat.Coprime q.natAbs p.natAbs from by unfold Nat.Coprime; rw [Nat.gcd_comm]; exact g) this
  have d2 : q'.natAbs ∣ q.natAbs := by
    have : q'.natAbs ∣ p'.natAbs * q.natAbs := en ▸ Nat.dvd_mul_left _ _
    exact Nat.Coprime.dvd_of_dvd_mul_left (show Nat.Coprime q'.natAbs p'.natAbs from by unfold Nat.Coprime; rw [Nat.gcd_comm]; exact g') this
  have eq : q = q' := by
    have := Nat.dvd_antisymm d1 d2
    omega
  subst eq
  exact ⟨Int.eq_of_mul_eq_mul_right (by omega) e, rfl⟩
theorem low_of {t b p q : Int} (hb : b ≠ 0) (hq : 0 < q) (g : Nat.gcd p.natAbs q.natAbs = 1) (e : t * q = p * b) : low t b = (p, q) := by
  have h1 := low_t t b
  have h2 := low_b t b
  have hs := share_ne (t := t) hb
  have x : (low t b).1 * q = p * (low t b).2 := by
    apply Int.eq_of_mul_eq_mul_right hs
    rw [Int.mul_right_comm, h1, e, Int.mul_assoc, h2]
  obtain ⟨a, c⟩ := unique (low_pos hb) hq (low_gcd hb) g x
  exact Prod.ext a c
theorem low_eq {t b t' b' : Int} (hb : b ≠ 0) (hb' : b' ≠ 0) (e : t * b' = t' * b) : low t b = low t' b' := by
  have h1 := low_t t' b'
  have h2 := low_b t' b'
  have hs := share_ne (t := t') hb'
  have x : t * (low t' b').2 = (low t' b').1 * b := by
    apply Int.eq_of_mul_eq_mul_right hs
    rw [Int.mul_assoc, h2, Int.mul_right_comm, h1, e]
  exact low_of hb (low_pos hb') (low_gcd hb') x
/-- what low makes, as a fraction -/
theorem low_cross (t b : Int) : t * (low t b).2 = (low t b).1 * b := by
  have h1 := low_t t b
  have h2 := low_b t b
  generalize (low t b).1 = p at *
  generalize (low t b).2 = q at *
  generalize shareOf t b = s at *
  subst h1
  rw [← h2]
  grind
end M01

namespace M01
def cmp (x y : Int) : Int := (if y < x then 1 else 0) - (if x < y then 1 else 0)
theorem back_plus {a b c d : Int} (hb : 0 < b) (hd : 0 < d) (g : Nat.gcd a.natAbs b.natAbs = 1) :
    low ((low (a * d - c * b) (b * d)).1 * d + c * (low (a * d - c * b) (b * d)).2) ((low (a * d - c * b) (b * d)).2 * d) = (a, b) := by
  have bd : b * d ≠ 0 := Int.ne_of_gt (Int.mul_pos hb hd)
  have k := low_cross (a * d - c * b) (b * d)
  have yp := low_pos (t := a * d - c * b) bd
  generalize (low (a * d - c * b) (b * d)).1 = x at *
  generalize (low (a * d - c * b) (b * d)).2 = y at *
  refine low_of (Int.ne_of_gt (Int.mul_pos yp hd)) hb g ?_
  grind
theorem back_minus {a b c d : Int} (hb : 0 < b) (hd : 0 < d) (g : Nat.gcd c.natAbs d.natAbs = 1) :
    low ((low (a * d + c * b) (b * d)).1 * b - a * (low (a * d + c * b) (b * d)).2) ((low (a * d + c * b) (b * d)).2 * b) = (c, d) := by
  have bd : b * d ≠ 0 := Int.ne_of_gt (Int.mul_pos hb hd)
  have k := low_cross (a * d + c * b) (b * d)
  have yp := low_pos (t := a * d + c * b) bd
  generalize (low (a * d + c * b) (b * d)).1 = x at *
  generalize (low (a * d + c * b) (b * d)).2 = y at *
  refine low_of (Int.ne_of_gt (Int.mul_pos yp hb)) hd g ?_
  grind
theorem cmp_eq {x y x' y' : Int} (h1 : (y < x) ↔ (y' < x')) (h2 : (x < y) ↔ (x' < y')) : cmp x y = cmp x' y' := by
  unfold cmp
  by_cases a : y < x <;> by_cases b : x < y <;> simp only [a, b, if_true, if_false, h1.mp, h2.mp] <;> (try rw [if_pos (h1.mp a)]) <;> (try rw [if_neg (fun z => a (h1.mpr z))]) <;> (try rw [if_pos (h2.mp b)]) <;> (try rw [if_neg (fun z => b (h2.mpr z))])
theorem sign_of {n p y e : Int} (hy : 0 < y) (he : 0 < e) (k : n * y = p * e) : (0 < p ↔ 0 < n) ∧ (p < 0 ↔ n < 0) := by
  constructor
  · constructor
    · intro h
      have h1 : 0 < n * y := by rw [k]; exact Int.mul_pos h he
      rcases Int.lt_or_le 0 n with z | z
      · exact z
      · have := Int.mul_nonpos_of_nonpos_of_nonneg z (Int.le_of_lt hy)
        omega
    · intro h
      have h1 : 0 < p * e := by rw [← k]; exact Int.mul_pos h hy
      rcases Int.lt_or_le 0 p with z | z
      · exact z
      · have := Int.mul_nonpos_of_nonpos_of_nonneg z (Int.le_of_lt he)
        omega
  · constructor
    · intro h
      have h1 : n * y < 0 := by rw [k]; exact Int.mul_neg_of_neg_of_pos h he
      rcases Int.lt_or_le n 0 with z | z
      · exact z
      · have := Int.mul_nonneg z (Int.le_of_lt hy)
        omega
    · intro h
      have h1 : p * e < 0 := by rw [← k]; exact Int.mul_neg_of_neg_of_pos h hy
      rcases Int.lt_or_le p 0 with z | z
      · exact z
      · have := Int.mul_nonneg z (Int.le_of_lt he)
        omega
theorem cmp_low {a b c d : Int} (hb : 0 < b) (hd : 0 < d) :
    cmp ((low (a * d - c * b) (b * d)).1 * 1) (0 * (low (a * d - c * b) (b * d)).2) = cmp (a * d) (c * b) := by
  have bd := Int.mul_pos hb hd
  have k := low_cross (a * d - c * b) (b * d)
  have yp := low_pos (t := a * d - c * b) (Int.ne_of_gt bd)
  have s := sign_of yp bd k
  rw [Int.mul_one, Int.zero_mul]
  refine cmp_eq ?_ ?_
  · rw [s.1]
    omega
  · rw [s.2]
    omega
theorem cmp_cases (x y : Int) : cmp x y = if x = y then 0 else if y < x then 1 else -1 := by
  unfold cmp
  split <;> split <;> split <;> omega
theorem cmp_swap (x y : Int) : cmp y x = -(cmp x y) := by
  unfold cmp
  omega
theorem cmp_small (x y : Int) : cmp x y = -1 ∨ cmp x y = 0 ∨ cmp x y = 1 := by
  unfold cmp
  split <;> split <;> omega
theorem gcdL_zeros (ns : List Int) (k : Nat) : gcdL (ns ++ List.replicate k 0) = gcdL ns := by
  induction k with
  | zero => simp
  | succ k ih =>
    rw [List.replicate_succ', ← List.append_assoc, gcdL_snoc, ih]
    have := gcdL_nonneg ns
    simp
    omega
theorem low_zero {b : Int} (h : b ≠ 0) : low 0 b = (0, 1) := low_of h (by decide) (by decide) (by simp)
end M01

set_option maxHeartbeats 2000000
namespace K01
open PySem PySem.Spec PyProof.Rows L2 My
abbrev St := L2.St
def top (i : Nat) : Stmt := PySem.Challenge.pw_ballgrids_k01_whole_numbers.main.body.getD i (.Pass ⟨0, 0, 0, 0⟩)
abbrev s_is_whole : Stmt := top 8
abbrev names_is_whole : List Str := ["value"]
theorem sc_is_whole : FnScope names_is_whole ["value"] (defScope s_is_whole) := ⟨rfl, rfl, rfl, by decide +kernel, rfl, by decide +kernel, by decide +kernel⟩
abbrev s_is_integer : Stmt := top 9
abbrev names_is_integer : List Str := ["value"]
theorem sc_is_integer : FnScope names_is_integer ["value"] (defScope s_is_integer) := ⟨rfl, rfl, rfl, by decide +kernel, rfl, by decide +kernel, by decide +kernel⟩
abbrev s_are_integers : Stmt := top 10
abbrev names_are_integers : List Str := ["value", "least", "most", "number"]
theorem sc_are_integers : FnScope names_are_integers ["value", "least", "most"] (defScope s_are_integers) := ⟨rfl, rfl, rfl, by decide +kernel, rfl, by decide +kernel, by decide +kernel⟩
abbrev s_is_ratio : Stmt := top 11
abbrev names_is_ratio : List Str := ["value"]
theorem sc_is_ratio : FnScope names_is_ratio ["value"] (defScope s_is_ratio) := ⟨rfl, rfl, rfl, by decide +kernel, rfl, by decide +kernel, by decide +kernel⟩
abbrev s_divisor_of : Stmt := top 12
abbrev names_divisor_of : List Str := ["numbers", "found", "number"]
theorem sc_divisor_of : FnScope names_divisor_of ["numbers"] (defScope s_divisor_of) := ⟨rfl, rfl, rfl, by decide +kernel, rfl, by decide +kernel, by decide +kernel⟩
abbrev s_ratio_of : Stmt := top 13
abbrev names_ratio_of : List Str := ["top", "bottom", "divisor"]
theorem sc_ratio_of : FnScope names_ratio_of ["top", "bottom"] (defScope s_ratio_of) := ⟨rfl, rfl, rfl, by decide +kernel, rfl, by decide +kernel, by decide +kernel⟩
abbrev s_common_divisor : Stmt := top 14
abbrev names_common_divisor : List Str := ["numbers"]
theorem sc_common_divisor : FnScope names_common_divisor ["numbers"] (defScope s_common_divisor) := ⟨rfl, rfl, rfl, by decide +kernel, rfl, by decide +kernel, by decide +kernel⟩
abbrev s_lowest : Stmt := top 15
abbrev names_lowest : List Str := ["top", "bottom"]
theorem sc_lowest : FnScope names_lowest ["top", "bottom"] (defScope s_lowest) := ⟨rfl, rfl, rfl, by decide +kernel, rfl, by decide +kernel, by decide +kernel⟩
abbrev s_need_ratios : Stmt := top 16
abbrev names_need_ratios : List Str := ["one", "other", "value"]
theorem sc_need_ratios : FnScope names_need_ratios ["one", "other"] (defScope s_need_ratios) := ⟨rfl, rfl, rfl, by decide +kernel, rfl, by decide +kernel, by decide +kernel⟩
abbrev s_compare : Stmt := top 17
abbrev names_compare : List Str := ["one", "other", "left", "right"]
theorem sc_compare : FnScope names_compare ["one", "other"] (defScope s_compare) := ⟨rfl, rfl, rfl, by decide +kernel, rfl, by decide +kernel, by decide +kernel⟩
abbrev s_plus : Stmt := top 18
abbrev names_plus : List Str := ["one", "other"]
theorem sc_plus : FnScope names_plus ["one", "other"] (defScope s_plus) := ⟨rfl, rfl, rfl, by decide +kernel, rfl, by decide +kernel, by decide +kernel⟩
abbrev s_minus : Stmt := top 19
abbrev names_minus : List Str := ["one", "other"]
theorem sc_minus : FnScope names_minus ["one", "other"] (defScope s_minus) := ⟨rfl, rfl, rfl, by decide +kernel, rfl, by decide +kernel, by decide +kernel⟩
abbrev s_times : Stmt := top 20
abbrev names_times : List Str := ["one", "other"]
theorem sc_times : FnScope names_times ["one", "other"] (defScope s_times) := ⟨rfl, rfl, rfl, by decide +kernel, rfl, by decide +kernel, by decide +kernel⟩
abbrev s__law_bag : Stmt := top 22
abbrev names__law_bag : List Str := ["_law_script", "_law_spot", "_law_cell", "_law_great", "_law_mixed"]
theorem sc__law_bag : FnScope names__law_bag ["_law_script", "_law_spot"] (defScope s__law_bag) := ⟨rfl, rfl, rfl, by decide +kernel, rfl, by decide +kernel, by decide +kernel⟩
abbrev s__law_grab : Stmt := top 23
abbrev names__law_grab : List Str := ["_law_bag_here", "_law_total", "_law_found", "_law_one", "_law_two"]
theorem sc__law_grab : FnScope names__law_grab ["_law_bag_here", "_law_total"] (defScope s__law_grab) := ⟨rfl, rfl, rfl, by decide +kernel, rfl, by decide +kernel, by decide +kernel⟩
abbrev s__law_one_of : Stmt := top 24
abbrev names__law_one_of : List Str := ["_law_bag_here", "_law_items"]
theorem sc__law_one_of : FnScope names__law_one_of ["_law_bag_here", "_law_items"] (defScope s__law_one_of) := ⟨rfl, rfl, rfl, by decide +kernel, rfl, by decide +kernel, by decide +kernel⟩
abbrev s__law_divisor : Stmt := top 25
abbrev names__law_divisor : List Str := ["_law_numbers", "_law_found", "_law_number", "_law_other"]
theorem sc__law_divisor : FnScope names__law_divisor ["_law_numbers"] (defScope s__law_divisor) := ⟨rfl, rfl, rfl, by decide +kernel, rfl, by decide +kernel, by decide +kernel⟩
abbrev s__law_whole : Stmt := top 26
abbrev names__law_whole : List Str := ["_law_bag_here", "_law_high"]
theorem sc__law_whole : FnScope names__law_whole ["_law_bag_here", "_law_high"] (defScope s__law_whole) := ⟨rfl, rfl, rfl, by decide +kernel, rfl, by decide +kernel, by decide +kernel⟩
abbrev s__law_is_short : Stmt := top 27
abbrev names__law_is_short : List Str := ["_law_value"]
theorem sc__law_is_short : FnScope names__law_is_short ["_law_value"] (defScope s__law_is_short) := ⟨rfl, rfl, rfl, by decide +kernel, rfl, by decide +kernel, by decide +kernel⟩
abbrev s__law_is_ratio : Stmt := top 28
abbrev names__law_is_ratio : List Str := ["_law_value"]
theorem sc__law_is_ratio : FnScope names__law_is_ratio ["_law_value"] (defScope s__law_is_ratio) := ⟨rfl, rfl, rfl, by decide +kernel, rfl, by decide +kernel, by decide +kernel⟩
abbrev s__law_ratio : Stmt := top 29
abbrev names__law_ratio : List Str := ["_law_bag_here", "_law_high", "_law_top", "_law_bottom", "_law_share"]
theorem sc__law_ratio : FnScope names__law_ratio ["_law_bag_here"] (defScope s__law_ratio) := ⟨rfl, rfl, rfl, by decide +kernel, rfl, by decide +kernel, by decide +kernel⟩
abbrev s__law_lowered_pair : Stmt := top 30
abbrev names__law_lowered_pair : List Str := ["_law_top", "_law_bottom", "_law_share"]
theorem sc__law_lowered_pair : FnScope names__law_lowered_pair ["_law_top", "_law_bottom"] (defScope s__law_lowered_pair) := ⟨rfl, rfl, rfl, by decide +kernel, rfl, by decide +kernel, by decide +kernel⟩
abbrev s__law_judged : Stmt := top 31
abbrev names__law_judged : List Str := ["_law_bag_here", "_law_top", "_law_bottom", "_law_values", "_law_value"]
theorem sc__law_judged : FnScope names__law_judged ["_law_bag_here"] (defScope s__law_judged) := ⟨rfl, rfl, rfl, by decide +kernel, rfl, by decide +kernel, by decide +kernel⟩
abbrev s__law_reckoned : Stmt := top 32
abbrev names__law_reckoned : List Str := ["_law_bag_here", "_law_one", "_law_other", "_law_a", "_law_b", "_law_c", "_law_d", "_law_due", "_law_told"]
theorem sc__law_reckoned : FnScope names__law_reckoned ["_law_bag_here"] (defScope s__law_reckoned) := ⟨rfl, rfl, rfl, by decide +kernel, rfl, by decide +kernel, by decide +kernel⟩
abbrev s__law_lowered : Stmt := top 33
abbrev names__law_lowered : List Str := ["_law_bag_here", "_law_high", "_law_share", "_law_numbers", "_law_turn", "_law_top", "_law_bottom"]
theorem sc__law_lowered : FnScope names__law_lowered ["_law_bag_here"] (defScope s__law_lowered) := ⟨rfl, rfl, rfl, by decide +kernel, rfl, by decide +kernel, by decide +kernel⟩
abbrev s_law : Stmt := top 34
abbrev names_law : List Str := ["_law_script", "_law_spot", "_law_bag_here", "_law_turn", "_law_told"]
theorem sc_law : FnScope names_law ["_law_script"] (defScope s_law) := ⟨rfl, rfl, rfl, by decide +kernel, rfl, by decide +kernel, by decide +kernel⟩
structure Adr where
  a_is_whole : Addr
  d_is_whole : FuncData
  a_is_integer : Addr
  d_is_integer : FuncData
  a_are_integers : Addr
  d_are_integers : FuncData
  a_is_ratio : Addr
  d_is_ratio : FuncData
  a_divisor_of : Addr
  d_divisor_of : FuncData
  a_ratio_of : Addr
  d_ratio_of : FuncData
  a_common_divisor : Addr
  d_common_divisor : FuncData
  a_lowest : Addr
  d_lowest : FuncData
  a_need_ratios : Addr
  d_need_ratios : FuncData
  a_compare : Addr
  d_compare : FuncData
  a_plus : Addr
  d_plus : FuncData
  a_minus : Addr
  d_minus : FuncData
  a_times : Addr
  d_times : FuncData
  a__law_bag : Addr
  d__law_bag : FuncData
  a__law_grab : Addr
  d__law_grab : FuncData
  a__law_one_of : Addr
  d__law_one_of : FuncData
  a__law_divisor : Addr
  d__law_divisor : FuncData
  a__law_whole : Addr
  d__law_whole : FuncData
  a__law_is_short : Addr
  d__law_is_short : FuncData
  a__law_is_ratio : Addr
  d__law_is_ratio : FuncData
  a__law_ratio : Addr
  d__law_ratio : FuncData
  a__law_lowered_pair : Addr
  d__law_lowered_pair : FuncData
  a__law_judged : Addr
  d__law_judged : FuncData
  a__law_reckoned : Addr
  d__law_reckoned : FuncData
  a__law_lowered : Addr
  d__law_lowered : FuncData
  a_law : Addr
  d_law : FuncData
  u_MAX_NUMBERS : Value
  u_TOO_LONG : Value
structure Txt (K : PySem.W.Frag) (mg : Str → Option Value) (A : Adr) : Prop where
  g_is_whole : mg "is_whole" = some (.ref A.a_is_whole)
  f_is_whole : Fun K "is_whole" "is_whole" s_is_whole A.a_is_whole A.d_is_whole
  g_is_integer : mg "is_integer" = some (.ref A.a_is_integer)
  f_is_integer : Fun K "is_integer" "is_integer" s_is_integer A.a_is_integer A.d_is_integer
  g_are_integers : mg "are_integers" = some (.ref A.a_are_integers)
  f_are_integers : Fun K "are_integers" "are_integers" s_are_integers A.a_are_integers A.d_are_integers
  g_is_ratio : mg "is_ratio" = some (.ref A.a_is_ratio)
  f_is_ratio : Fun K "is_ratio" "is_ratio" s_is_ratio A.a_is_ratio A.d_is_ratio
  g_divisor_of : mg "divisor_of" = some (.ref A.a_divisor_of)
  f_divisor_of : Fun K "divisor_of" "divisor_of" s_divisor_of A.a_divisor_of A.d_divisor_of
  g_ratio_of : mg "ratio_of" = some (.ref A.a_ratio_of)
  f_ratio_of : Fun K "ratio_of" "ratio_of" s_ratio_of A.a_ratio_of A.d_ratio_of
  g_common_divisor : mg "common_divisor" = some (.ref A.a_common_divisor)
  f_common_divisor : Fun K "common_divisor" "common_divisor" s_common_divisor A.a_common_divisor A.d_common_divisor
  g_lowest : mg "lowest" = some (.ref A.a_lowest)
  f_lowest : Fun K "lowest" "lowest" s_lowest A.a_lowest A.d_lowest
  g_need_ratios : mg "need_ratios" = some (.ref A.a_need_ratios)
  f_need_ratios : Fun K "need_ratios" "need_ratios" s_need_ratios A.a_need_ratios A.d_need_ratios
  g_compare : mg "compare" = some (.ref A.a_compare)
  f_compare : Fun K "compare" "compare" s_compare A.a_compare A.d_compare
  g_plus : mg "plus" = some (.ref A.a_plus)
  f_plus : Fun K "plus" "plus" s_plus A.a_plus A.d_plus
  g_minus : mg "minus" = some (.ref A.a_minus)
  f_minus : Fun K "minus" "minus" s_minus A.a_minus A.d_minus
  g_times : mg "times" = some (.ref A.a_times)
  f_times : Fun K "times" "times" s_times A.a_times A.d_times
  g__law_bag : mg "_law_bag" = some (.ref A.a__law_bag)
  f__law_bag : Fun K "_law_bag" "_law_bag" s__law_bag A.a__law_bag A.d__law_bag
  g__law_grab : mg "_law_grab" = some (.ref A.a__law_grab)
  f__law_grab : Fun K "_law_grab" "_law_grab" s__law_grab A.a__law_grab A.d__law_grab
  g__law_one_of : mg "_law_one_of" = some (.ref A.a__law_one_of)
  f__law_one_of : Fun K "_law_one_of" "_law_one_of" s__law_one_of A.a__law_one_of A.d__law_one_of
  g__law_divisor : mg "_law_divisor" = some (.ref A.a__law_divisor)
  f__law_divisor : Fun K "_law_divisor" "_law_divisor" s__law_divisor A.a__law_divisor A.d__law_divisor
  g__law_whole : mg "_law_whole" = some (.ref A.a__law_whole)
  f__law_whole : Fun K "_law_whole" "_law_whole" s__law_whole A.a__law_whole A.d__law_whole
  g__law_is_short : mg "_law_is_short" = some (.ref A.a__law_is_short)
  f__law_is_short : Fun K "_law_is_short" "_law_is_short" s__law_is_short A.a__law_is_short A.d__law_is_short
  g__law_is_ratio : mg "_law_is_ratio" = some (.ref A.a__law_is_ratio)
  f__law_is_ratio : Fun K "_law_is_ratio" "_law_is_ratio" s__law_is_ratio A.a__law_is_ratio A.d__law_is_ratio
  g__law_ratio : mg "_law_ratio" = some (.ref A.a__law_ratio)
  f__law_ratio : Fun K "_law_ratio" "_law_ratio" s__law_ratio A.a__law_ratio A.d__law_ratio
  g__law_lowered_pair : mg "_law_lowered_pair" = some (.ref A.a__law_lowered_pair)
  f__law_lowered_pair : Fun K "_law_lowered_pair" "_law_lowered_pair" s__law_lowered_pair A.a__law_lowered_pair A.d__law_lowered_pair
  g__law_judged : mg "_law_judged" = some (.ref A.a__law_judged)
  f__law_judged : Fun K "_law_judged" "_law_judged" s__law_judged A.a__law_judged A.d__law_judged
  g__law_reckoned : mg "_law_reckoned" = some (.ref A.a__law_reckoned)
  f__law_reckoned : Fun K "_law_reckoned" "_law_reckoned" s__law_reckoned A.a__law_reckoned A.d__law_reckoned
  g__law_lowered : mg "_law_lowered" = some (.ref A.a__law_lowered)
  f__law_lowered : Fun K "_law_lowered" "_law_lowered" s__law_lowered A.a__law_lowered A.d__law_lowered
  g_law : mg "law" = some (.ref A.a_law)
  f_law : Fun K "law" "law" s_law A.a_law A.d_law
  n_abs : mg "abs" = none
  n_all : mg "all" = none
  n_bool : mg "bool" = none
  n_int : mg "int" = none
  n_isinstance : mg "isinstance" = none
  n_len : mg "len" = none
  n_max : mg "max" = none
  n_min : mg "min" = none
  n_range : mg "range" = none
  n_repr : mg "repr" = none
  n_sum : mg "sum" = none
  n_tuple : mg "tuple" = none
  c_MAX_NUMBERS : mg "MAX_NUMBERS" = some A.u_MAX_NUMBERS
  v_MAX_NUMBERS : RelV (.int 100) A.u_MAX_NUMBERS
  c_TOO_LONG : mg "TOO_LONG" = some A.u_TOO_LONG
  v_TOO_LONG : RelV (.int (10 ^ 60)) A.u_TOO_LONG
  g_gcd : mg "gcd" = some (.builtin "math.gcd")
section
variable {K : PySem.W.Frag} {mg : Str → Option Value} {A : Adr}
theorem b_is_whole (T : Txt K mg A) : Binds K A.d_is_whole ["value"] [] := T.f_is_whole.binds fun _ _ _ _ _ _ us hl => match us, hl with | [_], _ => rfl
theorem b_is_integer (T : Txt K mg A) : Binds K A.d_is_integer ["value"] [] := T.f_is_integer.binds fun _ _ _ _ _ _ us hl => match us, hl with | [_], _ => rfl
theorem b_are_integers (T : Txt K mg A) : Binds K A.d_are_integers ["value", "least", "most"] [] := T.f_are_integers.binds fun _ _ _ _ _ _ us hl => match us, hl with | [_, _, _], _ => rfl
theorem b_is_ratio (T : Txt K mg A) : Binds K A.d_is_ratio ["value"] [] := T.f_is_ratio.binds fun _ _ _ _ _ _ us hl => match us, hl with | [_], _ => rfl
theorem b_divisor_of (T : Txt K mg A) : Binds K A.d_divisor_of ["numbers"] [] := T.f_divisor_of.binds fun _ _ _ _ _ _ us hl => match us, hl with | [_], _ => rfl
theorem b_ratio_of (T : Txt K mg A) : Binds K A.d_ratio_of ["top", "bottom"] [] := T.f_ratio_of.binds fun _ _ _ _ _ _ us hl => match us, hl with | [_, _], _ => rfl
theorem b_common_divisor (T : Txt K mg A) : Binds K A.d_common_divisor ["numbers"] [] := T.f_common_divisor.binds fun _ _ _ _ _ _ us hl => match us, hl with | [_], _ => rfl
theorem b_lowest (T : Txt K mg A) : Binds K A.d_lowest ["top", "bottom"] [] := T.f_lowest.binds fun _ _ _ _ _ _ us hl => match us, hl with | [_, _], _ => rfl
theorem b_need_ratios (T : Txt K mg A) : Binds K A.d_need_ratios ["one", "other"] [] := T.f_need_ratios.binds fun _ _ _ _ _ _ us hl => match us, hl with | [_, _], _ => rfl
theorem b_compare (T : Txt K mg A) : Binds K A.d_compare ["one", "other"] [] := T.f_compare.binds fun _ _ _ _ _ _ us hl => match us, hl with | [_, _], _ => rfl
theorem b_plus (T : Txt K mg A) : Binds K A.d_plus ["one", "other"] [] := T.f_plus.binds fun _ _ _ _ _ _ us hl => match us, hl with | [_, _], _ => rfl
theorem b_minus (T : Txt K mg A) : Binds K A.d_minus ["one", "other"] [] := T.f_minus.binds fun _ _ _ _ _ _ us hl => match us, hl with | [_, _], _ => rfl
theorem b_times (T : Txt K mg A) : Binds K A.d_times ["one", "other"] [] := T.f_times.binds fun _ _ _ _ _ _ us hl => match us, hl with | [_, _], _ => rfl
theorem b__law_bag (T : Txt K mg A) : Binds K A.d__law_bag ["_law_script", "_law_spot"] [] := T.f__law_bag.binds fun _ _ _ _ _ _ us hl => match us, hl with | [_, _], _ => rfl
theorem b__law_grab (T : Txt K mg A) : Binds K A.d__law_grab ["_law_bag_here", "_law_total"] [] := T.f__law_grab.binds fun _ _ _ _ _ _ us hl => match us, hl with | [_, _], _ => rfl
theorem b__law_one_of (T : Txt K mg A) : Binds K A.d__law_one_of ["_law_bag_here", "_law_items"] [] := T.f__law_one_of.binds fun _ _ _ _ _ _ us hl => match us, hl with | [_, _], _ => rfl
theorem b__law_divisor (T : Txt K mg A) : Binds K A.d__law_divisor ["_law_numbers"] [] := T.f__law_divisor.binds fun _ _ _ _ _ _ us hl => match us, hl with | [_], _ => rfl
theorem b__law_whole (T : Txt K mg A) : Binds K A.d__law_whole ["_law_bag_here", "_law_high"] [] := T.f__law_whole.binds fun _ _ _ _ _ _ us hl => match us, hl with | [_, _], _ => rfl
theorem b__law_is_short (T : Txt K mg A) : Binds K A.d__law_is_short ["_law_value"] [] := T.f__law_is_short.binds fun _ _ _ _ _ _ us hl => match us, hl with | [_], _ => rfl
theorem b__law_is_ratio (T : Txt K mg A) : Binds K A.d__law_is_ratio ["_law_value"] [] := T.f__law_is_ratio.binds fun _ _ _ _ _ _ us hl => match us, hl with | [_], _ => rfl
theorem b__law_ratio (T : Txt K mg A) : Binds K A.d__law_ratio ["_law_bag_here"] [] := T.f__law_ratio.binds fun _ _ _ _ _ _ us hl => match us, hl with | [_], _ => rfl
theorem b__law_lowered_pair (T : Txt K mg A) : Binds K A.d__law_lowered_pair ["_law_top", "_law_bottom"] [] := T.f__law_lowered_pair.binds fun _ _ _ _ _ _ us hl => match us, hl with | [_, _], _ => rfl
theorem b__law_judged (T : Txt K mg A) : Binds K A.d__law_judged ["_law_bag_here"] [] := T.f__law_judged.binds fun _ _ _ _ _ _ us hl => match us, hl with | [_], _ => rfl
theorem b__law_reckoned (T : Txt K mg A) : Binds K A.d__law_reckoned ["_law_bag_here"] [] := T.f__law_reckoned.binds fun _ _ _ _ _ _ us hl => match us, hl with | [_], _ => rfl
theorem b__law_lowered (T : Txt K mg A) : Binds K A.d__law_lowered ["_law_bag_here"] [] := T.f__law_lowered.binds fun _ _ _ _ _ _ us hl => match us, hl with | [_], _ => rfl
theorem b_law (T : Txt K mg A) : Binds K A.d_law ["_law_script"] [] := T.f_law.binds fun _ _ _ _ _ _ us hl => match us, hl with | [_], _ => rfl
end
end K01

set_option maxHeartbeats 2000000
namespace K01
open PySem PySem.Spec PyProof.Rows L2 My
section
variable {P : Program} {w : World} {K : PySem.W.Frag} {mg : Str → Option Value} {base : Heap} {A : Adr}
def whole : PyData → Bool
  | .int _ => true
  | _ => false
def isI : PyData → Bool
  | .int i => decide (-(10 ^ 60) < i) && decide (i < 10 ^ 60)
  | _ => false
def tupD : PyData → Bool
  | .tuple _ => true
  | _ => false
theorem kit_int (d : PyData) : kitB (tyD d) "int" = some (match d with | .int _ => true | .bool _ => true | _ => false) := by
  cases d <;> simp only [tyD, tupD] <;> decide +kernel
theorem kit_bool (d : PyData) : kitB (tyD d) "bool" = some (match d with | .bool _ => true | _ => false) := by
  cases d <;> simp only [tyD, tupD] <;> decide +kernel
theorem kit_tuple (d : PyData) : kitB (tyD d) "tuple" = some (tupD d) := by
  cases d <;> simp only [tyD, tupD] <;> decide +kernel
def sp_is_whole (K : PySem.W.Frag) : Sp := fun vs H Q _ => ∃ v d, vs = [v] ∧ Jd K H v d ∧ Q (.bl (whole d)) H
theorem ok_is_whole (T : Txt K mg A) : FnOk P w K mg base CX0 1 A.a_is_whole A.d_is_whole ["value"] (sp_is_whole K) := by
  refine T.f_is_whole.ok sc_is_whole (fun vs H Q E h => ?_) (fun cdv B out t H vs Q E hr h => ?_)
  · obtain ⟨v, d, rfl, _⟩ := h
    rfl
  · obtain ⟨v, d, rfl, j, q⟩ := h
    refine ⟨_, (pss_one (ps_ret (pe_and (pe_callB call_isi (by rfl) T.n_isinstance (by decide +kernel) (pa_cons (pv 0) (pa_cons (pe_bltn (v := .ty "int") (by rfl) T.n_int (by decide +kernel) rfl) pa_nil))) (pe_one (pe_not (pe_callB call_isi (by rfl) T.n_isinstance (by decide +kernel) (pa_cons (pv 0) (pa_cons (pe_bltn (v := .ty "bool") (by rfl) T.n_bool (by decide +kernel) rfl) pa_nil)))))))), ?_⟩
    refine ⟨_, rfl, ⟨_, _, _, _, _, rfl, .ty "int", j.ty, kit_ty (kit_int d), ⟨_, rfl, ?_⟩⟩⟩
    have q' : Q (.bl (whole d)) H := q
    cases d
    case int i => exact iteT ⟨_, rfl, ⟨_, _, _, _, _, rfl, .ty "bool", j.ty, kit_ty (kit_bool _), ⟨_, rfl, q'⟩⟩⟩
    case bool b => exact iteT ⟨_, rfl, ⟨_, _, _, _, _, rfl, .ty "bool", j.ty, kit_ty (kit_bool _), ⟨_, rfl, q'⟩⟩⟩
    all_goals exact iteF q'
def sp_is_integer (K : PySem.W.Frag) : Sp := fun vs H Q _ => ∃ v d, vs = [v] ∧ Jd K H v d ∧ Q (.bl (isI d)) H
theorem ok_is_integer (T : Txt K mg A) : FnOk P w K mg base CX0 2 A.a_is_integer A.d_is_integer ["value"] (sp_is_integer K) := by
  have G_is_whole : FnOk P w K mg base CX0 1 A.a_is_whole A.d_is_whole ["value"] (sp_is_whole K) := ok_is_whole T
  refine T.f_is_integer.ok sc_is_integer (fun vs H Q E h => ?_) (fun cdv B out t H vs Q E hr h => ?_)
  · obtain ⟨v, d, rfl, _⟩ := h
    rfl
  · obtain ⟨v, d, rfl, j, q⟩ := h
    refine ⟨_, (pss_one (ps_ret (pe_and (pe_call G_is_whole (hr.mono (by decide)) (by rfl) T.g_is_whole T.f_is_whole.kp (b_is_whole T) .nil pass0 (pa_cons (pv 0) pa_nil)) (pe_one (pe_chain op_lt op_lt (pe_un un_neg (pe_glob rfl T.c_TOO_LONG T.v_TOO_LONG)) (pv 0) (pe_glob rfl T.c_TOO_LONG T.v_TOO_LONG)))))), ?_⟩
    refine ⟨_, rfl, v, d, rfl, j, _, rfl, ?_⟩
    have q' : Q (.bl (isI d)) H := q
    cases d
    case int i =>
      cases j
      refine iteT ⟨_, rfl, _, rfl, _, _, rfl, rfl, _, rfl, ?_⟩
      by_cases c : -(10 ^ 60) < i
      · refine if_pos_of (decide_eq_true c) ⟨_, _, rfl, rfl, ?_⟩
        have e : isI (.int i) = decide (i < 10 ^ 60) := by
          show (decide _ && decide _) = _
          rw [decide_eq_true c, Bool.true_and]
        rw [e] at q'
        exact q'
      · refine if_neg_of (decide_eq_false c) ?_
        have e : isI (.int i) = false := by
          show (decide _ && decide _) = _
          rw [decide_eq_false c, Bool.false_and]
        rw [e] at q'
        exact q'
    all_goals exact iteF q'
end
end K01

set_option maxHeartbeats 2000000
namespace K01
open PySem PySem.Spec PyProof.Rows L2 My
section
variable {P : Program} {w : World} {K : PySem.W.Frag} {mg : Str → Option Value} {base : Heap} {A : Adr}
def intsD (lo hi : Int) : PyData → Bool
  | .tuple ds => (decide (lo ≤ (ds.length : Int)) && decide ((ds.length : Int) ≤ hi)) && ds.all isI
  | _ => false
def sp_are_integers (K : PySem.W.Frag) : Sp := fun vs H Q _ => ∃ v d lo hi, vs = [v, .int lo, .int hi] ∧ Jd K H v d ∧ hi < 100000 ∧ ∀ H', Same H H' → Q (.bl (intsD lo hi d)) H'
theorem ok_are_integers (T : Txt K mg A) : FnOk P w K mg base CX0 3 A.a_are_integers A.d_are_integers ["value", "least", "most"] (sp_are_integers K) := by
  have G_is_integer : FnOk P w K mg base CX0 2 A.a_is_integer A.d_is_integer ["value"] (sp_is_integer K) := ok_is_integer T
  refine T.f_are_integers.ok sc_are_integers (fun vs H Q E h => ?_) (fun cdv B out t H vs Q E hr h => ?_)
  · obtain ⟨v, d, lo, hi, rfl, _⟩ := h
    rfl
  · obtain ⟨v, d, lo, hi, rfl, j, hz, q⟩ := h
    refine ⟨_, (pss_cons (ps_if (PW.pt (pw_or (pt_not (pt_val (pe_callB call_isi (by rfl) T.n_isinstance (by decide +kernel) (pa_cons (pv 0) (pa_cons (pe_bltn (v := .ty "tuple") (by rfl) T.n_tuple (by decide +kernel) rfl) pa_nil))))) (pw_or1 (pt_not (pt_chain op_le op_le (pv 1) (pe_callB call_len_seq (by rfl) T.n_len (by decide +kernel) (pa_cons (pv 0) pa_nil)) (pv 2)))))) (pss_one (ps_ret pe_bl)) pss_nil)
      (pss_one (ps_ret (pe_callB (cr_all rfl) (by rfl) T.n_all (by decide +kernel) (pa_cons (pe_lc (own := [("number", 3)]) (g := gName 3) (tt := tYes)  rfl sc_are_integers.nd (pi_tup (pv 0)) (blkOk_by (own := [("number", 3)]) (N := names_are_integers) (sc := defScope s_are_integers) (by decide +kernel)) (fun _ _ _ _ _ => (pg_name (i := 3) sc_are_integers.nd rfl (Or.inl rfl))) (fun _ _ _ _ _ => pts_nil) (fun _ _ _ _ _ => (pe_call G_is_integer (hr.mono (by decide)) (by rfl) T.g_is_integer T.f_is_integer.kp (b_is_integer T) .nil pass0 (pa_cons (pv 3) pa_nil)))) pa_nil))))), ?_⟩
    refine ⟨_, rfl, _, _, _, _, _, rfl, .ty "tuple", j.ty, kit_ty (kit_tuple d), ⟨_, rfl, ?_⟩⟩
    cases d with
    | tuple ds =>
      cases j with
      | tup hs ha =>
        rename_i a xs
        refine iteF ?_
        refine ⟨_, rfl, _, rfl, _, _, rfl, Or.inr hs, _, _, rfl, rfl, _, rfl, ?_⟩
        have hl := ha.length
        by_cases c1 : lo ≤ (xs.length : Int)
        · refine if_pos_of (decide_eq_true c1) ⟨_, rfl, _, _, rfl, rfl, _, rfl, ?_⟩
          by_cases c2 : (xs.length : Int) ≤ hi
          · rw [decide_eq_true c2]
            refine iteF ?_
            dsimp only [tNext, tRet, tCB, tCons]
            refine comp_t (K := K) (a := a) (xs := xs) (ds.map fun d => V.bl (isI d)) (by rw [List.length_map, hl]) (by omega) hs ?_ ?_ ?_ (fun Q' q' => ⟨_, rfl, q'⟩)
            · exact fun _ => rfl
            · rintro k x y H1 hx hy e1 Q' q'
              obtain ⟨d, hd, jd⟩ := ha.get hx
              rw [List.getElem?_map, hd] at hy
              cases hy
              exact ⟨_, rfl, _, d, rfl, Jd.mono e1 _ _ jd, q' _ (Same.refl _)⟩
            · intro D H' e1 hD hL
              refine ⟨D, ds.map isI, rfl, Evl.sq_of (by rw [List.map_map]; exact hL), ?_⟩
              have e : intsD lo hi (.tuple ds) = (ds.map isI).all id := by
                show ((_ && _) && _) = _
                rw [← hl, decide_eq_true c1, decide_eq_true c2, List.all_map]
                rfl
              rw [← e]
              exact q H' e1
          · refine if_pos_of (by rw [decide_eq_false c2]; rfl) ?_
            have e : intsD lo hi (.tuple ds) = false := by
              show ((_ && _) && _) = _
              rw [← hl, decide_eq_false c2, Bool.and_false, Bool.false_and]
            have q' := q H (Same.refl _)
            rw [e] at q'
            exact q'
        · refine if_neg_of (decide_eq_false c1) ⟨_, rfl, iteT ?_⟩
          have e : intsD lo hi (.tuple ds) = false := by
            show ((_ && _) && _) = _
            rw [← hl, decide_eq_false c1, Bool.false_and, Bool.false_and]
          have q' := q H (Same.refl _)
          rw [e] at q'
          exact q'
    | _ => exact iteT (q H (Same.refl _))
end
end K01

set_option maxHeartbeats 2000000
namespace K01
open PySem PySem.Spec PyProof.Rows L2 My M01
section
variable {P : Program} {w : World} {K : PySem.W.Frag} {mg : Str → Option Value} {base : Heap} {A : Adr}
def sp_divisor_of (K : PySem.W.Frag) : Sp := fun vs H Q _ => ∃ a ns, vs = [.ref a] ∧ SqT K H a (ns.map V.int) ∧ Q (.int (gcdL ns)) H
theorem ok_divisor_of (T : Txt K mg A) : FnOk P w K mg base CX0 1 A.a_divisor_of A.d_divisor_of ["numbers"] (sp_divisor_of K) := by
  refine T.f_divisor_of.ok sc_divisor_of (fun vs H Q E h => ?_) (fun cdv B out t H vs Q E hr h => ?_)
  · obtain ⟨a, ns, rfl, _⟩ := h
    rfl
  · obtain ⟨a, ns, rfl, hs, q⟩ := h
    refine ⟨_, (pss_cons (ps_set (i := 1) sc_divisor_of.nd rfl (Or.inl rfl) pe_int)
      (pss_cons (ps_for PassesOwn.never rfl (pi_tup (pv 0)) (pg_name (i := 2) sc_divisor_of.nd rfl (Or.inl rfl)) (pss_one (ps_set (i := 1) sc_divisor_of.nd rfl (Or.inl rfl) (pe_callBfun cr_gcd (by rfl) T.g_gcd (pa_cons (pv 1) (pa_cons (pv 2) pa_nil))))))
      (pss_one (ps_ret (pv 1))))), ?_⟩
    refine ⟨_, rfl, a, rfl, ⟨_, hs⟩, for_tup (K := K) (a := a) (xs := ns.map V.int) (fun i σ H' => H' = H ∧ ∃ v : Option V, σ = [some (.ref a), some (.int (gcdL (ns.take i))), v])
      ⟨rfl, none, rfl⟩ (fun i σ H' _ h => by rw [h.1]; exact hs) ?_ ?_⟩
    · rintro i x σ H' hx ⟨rfl, v, rfl⟩
      rw [List.getElem?_map] at hx
      cases e : ns[i]? with
      | none => rw [e] at hx; cases hx
      | some n =>
        rw [e] at hx
        cases hx
        refine ⟨_, rfl, _, rfl, _, _, rfl, rfl, some (.int n), ?_⟩
        rw [take_next e, gcdL_snoc]
        rfl
    · rintro σ H' ⟨rfl, v, rfl⟩
      rw [List.length_map, List.take_length]
      exact ⟨_, rfl, q⟩
def ratD : PyData → Bool
  | .tuple [.int a, .int b] => isI (.int a) && isI (.int b) && decide (0 < b) && decide (gcdL [a, b] = 1)
  | _ => false
theorem ints_two {d : PyData} (h : intsD 2 2 d = true) : ∃ a b, d = .tuple [.int a, .int b] ∧ isI (.int a) = true ∧ isI (.int b) = true := by
  cases d with
  | tuple ds =>
    simp only [intsD, Bool.and_eq_true, decide_eq_true_eq] at h
    obtain ⟨⟨h1, h2⟩, h3⟩ := h
    match ds, h1, h2, h3 with
    | [], h1, _, _ => simp at h1
    | [_], h1, _, _ => simp at h1
    | [x, y], _, _, h3 =>
      simp only [List.all_cons, List.all_nil, Bool.and_true, Bool.and_eq_true] at h3
      cases x <;> simp [isI] at h3
      cases y <;> simp [isI] at h3
      exact ⟨_, _, rfl, by simp [isI]; omega, by simp [isI]; omega⟩
    | _ :: _ :: _ :: _, _, h2, _ => simp at h2; omega
  | _ => simp [intsD] at h
theorem not_ints_two {d : PyData} (h : intsD 2 2 d = false) : ratD d = false := by
  unfold ratD
  split
  · rename_i a b
    have e : (isI (.int a) && isI (.int b)) = false := by simpa [intsD] using h
    rw [e, Bool.false_and, Bool.false_and]
  · rfl
def sp_is_ratio (K : PySem.W.Frag) : Sp := fun vs H Q _ => ∃ v d, vs = [v] ∧ Jd K H v d ∧ ∀ H', Same H H' → Q (.bl (ratD d)) H'
theorem ok_is_ratio (T : Txt K mg A) : FnOk P w K mg base CX0 4 A.a_is_ratio A.d_is_ratio ["value"] (sp_is_ratio K) := by
  have G_are_integers : FnOk P w K mg base CX0 3 A.a_are_integers A.d_are_integers ["value", "least", "most"] (sp_are_integers K) := ok_are_integers T
  have G_divisor_of : FnOk P w K mg base CX0 1 A.a_divisor_of A.d_divisor_of ["numbers"] (sp_divisor_of K) := ok_divisor_of T
  refine T.f_is_ratio.ok sc_is_ratio (fun vs H Q E h => ?_) (fun cdv B out t H vs Q E hr h => ?_)
  · obtain ⟨v, d, rfl, _⟩ := h
    rfl
  · obtain ⟨v, d, rfl, j, q⟩ := h
    refine ⟨_, (pss_cons (ps_if (pt_not (pt_val (pe_call G_are_integers (hr.mono (by decide)) (by rfl) T.g_are_integers T.f_are_integers.kp (b_are_integers T) .nil pass0 (pa_cons (pv 0) (pa_cons pe_int (pa_cons pe_int pa_nil)))))) (pss_one (ps_ret pe_bl)) pss_nil)
      (pss_one (ps_ret (pe_and (pe_cmpR op_gt (pe_ix ix_tup (pv 0) pe_int (fun _ _ => rfl)) pe_int (nomark _)) (pe_one (pe_cmpR op_eq (pe_call G_divisor_of (hr.mono (by decide)) (by rfl) T.g_divisor_of T.f_divisor_of.kp (b_divisor_of T) .nil pass0 (pa_cons (pv 0) pa_nil)) pe_int (nomark _))))))), ?_⟩
    refine ⟨_, rfl, v, d, 2, 2, rfl, j, by omega, fun H1 e1 => ⟨_, rfl, ?_⟩⟩
    cases e : intsD 2 2 d with
    | false =>
      have q' := q H1 e1
      rw [not_ints_two e] at q'
      exact iteT q'
    | true =>
      refine iteF ?_
      obtain ⟨a, b, rfl, ia, ib⟩ := ints_two e
      cases j with
      | tup hs ha =>
        rename_i p xs
        have hx : xs = [a, b].map V.int := by
          cases ha with
          | cons j1 ha => cases ha with | cons j2 ha => cases ha; cases j1; cases j2; rfl
        subst hx
        have hs1 := same_t e1 hs
        refine ⟨_, rfl, p, _, _, _, rfl, rfl, hs1, rfl, _, _, rfl, rfl, _, rfl, ?_⟩
        have q' := q H1 e1
        have er : ratD (.tuple [.int a, .int b]) = (decide (0 < b) && decide (gcdL [a, b] = 1)) := by
          show (isI (.int a) && isI (.int b) && _ && _) = _
          rw [ia, ib]
          rfl
        rw [er] at q'
        by_cases c : 0 < b
        · refine if_pos_of (decide_eq_true c) ?_
          rw [decide_eq_true c, Bool.true_and] at q'
          refine ⟨_, rfl, p, [a, b], rfl, hs1, rfl, ?_⟩
          have ee : decide (V.int (gcdL [a, b]) = V.int 1) = decide (gcdL [a, b] = 1) := by
            by_cases g : gcdL [a, b] = 1
            · rw [g]; rfl
            · rw [decide_eq_false g, decide_eq_false (fun z => g (V.int.inj z))]
          rw [ee]
          exact q'
        · refine if_neg_of (decide_eq_false c) ?_
          rw [decide_eq_false c, Bool.false_and] at q'
          exact q'
theorem isI_lt {a : Int} (h : isI (.int a) = true) : a.natAbs < 2 ^ 200 := by
  simp only [isI, Bool.and_eq_true, decide_eq_true_eq] at h
  have e : (10 : Int) ^ 60 < 2 ^ 200 := by decide +kernel
  have h1 := h.1
  have h2 := h.2
  generalize (10 : Int) ^ 60 = z at *
  have e2 : ((2 ^ 200 : Nat) : Int) = (2 : Int) ^ 200 := by decide +kernel
  generalize (2 : Int) ^ 200 = y at *
  generalize (2 : Nat) ^ 200 = y' at *
  omega
def Two (H : Hp) (p : Addr) (r : Int × Int) : Prop := H p = some (.tup [.int r.1, .int r.2])
def sp_ratio_of (K : PySem.W.Frag) : Sp := fun vs H Q _ => ∃ t b, vs = [.int t, .int b] ∧ b ≠ 0 ∧ b.natAbs < 2 ^ 8000 ∧ ∀ p H', Same H H' → H p = none → Two H' p (low t b) → Q (.ref p) H'
theorem ok_ratio_of (T : Txt K mg A) : FnOk P w K mg base CX0 2 A.a_ratio_of A.d_ratio_of ["top", "bottom"] (sp_ratio_of K) := by
  have G_divisor_of : FnOk P w K mg base CX0 1 A.a_divisor_of A.d_divisor_of ["numbers"] (sp_divisor_of K) := ok_divisor_of T
  refine T.f_ratio_of.ok sc_ratio_of (fun vs H Q E h => ?_) (fun cdv B out t H vs Q E hr h => ?_)
  · obtain ⟨t, b, rfl, _⟩ := h
    rfl
  · obtain ⟨t, b, rfl, hb, hz, q⟩ := h
    refine ⟨_, (pss_cons (ps_set (i := 2) sc_ratio_of.nd rfl (Or.inl rfl) (pe_call G_divisor_of (hr.mono (by decide)) (by rfl) T.g_divisor_of T.f_divisor_of.kp (b_divisor_of T) .nil pass0 (pa_cons (pe_tup (pa_cons (pv 0) (pa_cons (pv 1) pa_nil))) pa_nil)))
      (pss_cons (ps_if (pt_cmpR op_lt (pv 1) pe_int (nomark _)) (pss_one (ps_set (i := 2) sc_ratio_of.nd rfl (Or.inl rfl) (pe_un un_neg (pv 2)))) pss_nil)
      (pss_one (ps_ret (pe_tup (pa_cons (pe_op op_fdivA (pv 0) (pv 2)) (pa_cons (pe_op op_fdivA (pv 1) (pv 2)) pa_nil))))))), ?_⟩
    have sn := share_ne (t := t) hb
    have sl : (shareOf t b).natAbs.log2 < 9000 := by
      have h1 := share_le (t := t) hb
      have h2 : (shareOf t b).natAbs < 2 ^ 8000 := Nat.lt_of_le_of_lt h1 hz
      have h3 := PySem.Flt.log2_lt_of (by omega : 0 < 8000) h2
      omega
    refine ⟨_, rfl, _, rfl, (by show 2 ≤ sizeLine; decide), fun p hp => ⟨p, [t, b], rfl, Or.inl (Or.inl upd_same), ?_⟩⟩
    refine ⟨_, rfl, _, _, rfl, rfl, _, rfl, ?_⟩
    by_cases c : b < 0
    · have es : shareOf t b = -(gcdL [t, b]) := if_pos c
      refine if_pos_of (decide_eq_true c) ⟨_, rfl, _, rfl, ?_⟩
      rw [es] at sn sl
      refine ⟨_, rfl, _, rfl, _, _, rfl, rfl, ⟨sn, sl⟩, _, rfl, _, rfl, _, _, rfl, rfl, ⟨sn, sl⟩, (by show 2 ≤ sizeLine; decide), fun p2 hp2 => ?_⟩
      refine q p2 _ ((same_new hp).trans (same_new hp2)) ((same_new hp).free hp2) ?_
      show upd _ p2 _ p2 = _
      rw [upd_same]
      unfold low
      rw [es]
    · have es : shareOf t b = gcdL [t, b] := if_neg c
      refine if_neg_of (decide_eq_false c) ?_
      rw [es] at sn sl
      refine ⟨_, rfl, _, rfl, _, _, rfl, rfl, ⟨sn, sl⟩, _, rfl, _, rfl, _, _, rfl, rfl, ⟨sn, sl⟩, (by show 2 ≤ sizeLine; decide), fun p2 hp2 => ?_⟩
      refine q p2 _ ((same_new hp).trans (same_new hp2)) ((same_new hp).free hp2) ?_
      show upd _ p2 _ p2 = _
      rw [upd_same]
      unfold low
      rw [es]
end
end K01

set_option maxHeartbeats 2000000
namespace K01
open PySem PySem.Spec PyProof.Rows L2 My M01
section
variable {P : Program} {w : World} {K : PySem.W.Frag} {mg : Str → Option Value} {base : Heap} {A : Adr}
theorem jd_tup {H : Hp} {a : Addr} {ns : List Int} (h : SqT K H a (ns.map V.int)) : Jd K H (.ref a) (.tuple (ns.map PyData.int)) := .tup h (jd_ints ns)
theorem intsD_of {lo hi : Int} {ns : List Int} (h1 : lo ≤ (ns.length : Int)) (h2 : (ns.length : Int) ≤ hi) (h3 : ∀ n ∈ ns, isI (.int n) = true) : intsD lo hi (.tuple (ns.map PyData.int)) = true := by
  show ((_ && _) && _) = _
  rw [List.length_map, decide_eq_true h1, decide_eq_true h2]
  simpa using h3
def sp_common_divisor (K : PySem.W.Frag) : Sp := fun vs H Q _ => ∃ a ns, vs = [.ref a] ∧ SqT K H a (ns.map V.int) ∧ 1 ≤ ns.length ∧ ns.length ≤ 100 ∧ (∀ n ∈ ns, isI (.int n) = true) ∧
  ∀ H', Same H H' → Q (.int (gcdL ns)) H'
theorem ok_common_divisor (T : Txt K mg A) : FnOk P w K mg base CX0 4 A.a_common_divisor A.d_common_divisor ["numbers"] (sp_common_divisor K) := by
  have G_are_integers : FnOk P w K mg base CX0 3 A.a_are_integers A.d_are_integers ["value", "least", "most"] (sp_are_integers K) := ok_are_integers T
  have G_divisor_of : FnOk P w K mg base CX0 1 A.a_divisor_of A.d_divisor_of ["numbers"] (sp_divisor_of K) := ok_divisor_of T
  refine T.f_common_divisor.ok sc_common_divisor (fun vs H Q E h => ?_) (fun cdv B out t H vs Q E hr h => ?_)
  · obtain ⟨a, ns, rfl, _⟩ := h
    rfl
  · obtain ⟨a, ns, rfl, hs, h1, h2, h3, q⟩ := h
    refine ⟨_, (pss_cons (ps_if (pt_not (pt_val (pe_call G_are_integers (hr.mono (by decide)) (by rfl) T.g_are_integers T.f_are_integers.kp (b_are_integers T) .nil pass0 (pa_cons (pv 0) (pa_cons pe_int (pa_cons (pe_glob rfl T.c_MAX_NUMBERS T.v_MAX_NUMBERS) pa_nil)))))) (pss_one ps_never) pss_nil)
      (pss_one (ps_ret (pe_call G_divisor_of (hr.mono (by decide)) (by rfl) T.g_divisor_of T.f_divisor_of.kp (b_divisor_of T) .nil pass0 (pa_cons (pv 0) pa_nil))))), ?_⟩
    refine ⟨_, rfl, _, _, 1, 100, rfl, jd_tup hs, by omega, fun H1 e1 => ⟨_, rfl, ?_⟩⟩
    rw [intsD_of (by omega) (by omega) h3]
    exact iteF ⟨_, rfl, a, ns, rfl, same_t e1 hs, q H1 e1⟩
def sp_lowest (K : PySem.W.Frag) : Sp := fun vs H Q _ => ∃ t b, vs = [.int t, .int b] ∧ isI (.int t) = true ∧ isI (.int b) = true ∧ b ≠ 0 ∧ ∀ p H', Same H H' → H p = none → Two H' p (low t b) → Q (.ref p) H'
theorem ok_lowest (T : Txt K mg A) : FnOk P w K mg base CX0 3 A.a_lowest A.d_lowest ["top", "bottom"] (sp_lowest K) := by
  have G_is_integer : FnOk P w K mg base CX0 2 A.a_is_integer A.d_is_integer ["value"] (sp_is_integer K) := ok_is_integer T
  have G_ratio_of : FnOk P w K mg base CX0 2 A.a_ratio_of A.d_ratio_of ["top", "bottom"] (sp_ratio_of K) := ok_ratio_of T
  refine T.f_lowest.ok sc_lowest (fun vs H Q E h => ?_) (fun cdv B out s0 H vs Q E hr h => ?_)
  · obtain ⟨t, b, rfl, _⟩ := h
    rfl
  · obtain ⟨t, b, rfl, it, ib, hb, q⟩ := h
    refine ⟨_, (pss_cons (ps_if (pt_not (pt_val (pe_call G_is_integer (hr.mono (by decide)) (by rfl) T.g_is_integer T.f_is_integer.kp (b_is_integer T) .nil pass0 (pa_cons (pv 0) pa_nil)))) (pss_one ps_never) pss_nil)
      (pss_cons (ps_if (PW.pt (pw_or (pt_not (pt_val (pe_call G_is_integer (hr.mono (by decide)) (by rfl) T.g_is_integer T.f_is_integer.kp (b_is_integer T) .nil pass0 (pa_cons (pv 1) pa_nil)))) (pw_or1 (pt_cmpR op_eq (pv 1) pe_int (nomark _))))) (pss_one ps_never) pss_nil)
      (pss_one (ps_ret (pe_call G_ratio_of (hr.mono (by decide)) (by rfl) T.g_ratio_of T.f_ratio_of.kp (b_ratio_of T) .nil pass0 (pa_cons (pv 0) (pa_cons (pv 1) pa_nil))))))), ?_⟩
    refine ⟨_, rfl, _, _, rfl, Jd.int t, _, rfl, ?_⟩
    rw [it]
    refine iteF ⟨_, rfl, _, _, rfl, Jd.int b, _, rfl, ?_⟩
    rw [ib]
    refine iteF ⟨_, rfl, rfl, _, rfl, ?_⟩
    rw [decide_eq_false (fun z => hb (V.int.inj z))]
    exact iteF ⟨_, rfl, _, rfl, t, b, rfl, hb, Nat.lt_of_lt_of_le (isI_lt ib) (Nat.pow_le_pow_right (by decide) (by decide)), q⟩
/-- a ratio stands at p -/
structure Rat (K : PySem.W.Frag) (H : Hp) (p : Addr) (a b : Int) : Prop where
  at_ : SqT K H p ([a, b].map V.int)
  ok : ratD (.tuple [.int a, .int b]) = true
theorem Rat.same {H H' : Hp} {p : Addr} {a b : Int} (e : Same H H') (h : Rat K H p a b) : Rat K H' p a b := ⟨same_t e h.at_, h.ok⟩
theorem Rat.jd {H : Hp} {p : Addr} {a b : Int} (h : Rat K H p a b) : Jd K H (.ref p) (.tuple [.int a, .int b]) := jd_tup h.at_
theorem ratD_iff {a b : Int} : ratD (.tuple [.int a, .int b]) = true ↔ isI (.int a) = true ∧ isI (.int b) = true ∧ 0 < b ∧ gcdL [a, b] = 1 := by
  show (isI (.int a) && isI (.int b) && decide (0 < b) && decide (gcdL [a, b] = 1)) = true ↔ _
  simp only [Bool.and_eq_true, decide_eq_true_eq, and_assoc]
def sp_need_ratios (K : PySem.W.Frag) : Sp := fun vs H Q _ => ∃ p q a b c d, vs = [.ref p, .ref q] ∧ Rat K H p a b ∧ Rat K H q c d ∧ ∀ H', Same H H' → Q .non H'
theorem ok_need_ratios (T : Txt K mg A) : FnOk P w K mg base CX0 5 A.a_need_ratios A.d_need_ratios ["one", "other"] (sp_need_ratios K) := by
  have G_is_ratio : FnOk P w K mg base CX0 4 A.a_is_ratio A.d_is_ratio ["value"] (sp_is_ratio K) := ok_is_ratio T
  refine T.f_need_ratios.ok sc_need_ratios (fun vs H Q E h => ?_) (fun cdv B out t H vs Q E hr h => ?_)
  · obtain ⟨p, q, a, b, c, d, rfl, _⟩ := h
    rfl
  · obtain ⟨p, q, a, b, c, d, rfl, r1, r2, k⟩ := h
    refine ⟨_, (pss_one (ps_for PassesOwn.never rfl (pi_tup (pe_tup (pa_cons (pv 0) (pa_cons (pv 1) pa_nil)))) (pg_name (i := 2) sc_need_ratios.nd rfl (Or.inl rfl)) (pss_one (ps_if (pt_not (pt_val (pe_call G_is_ratio (hr.mono (by decide)) (by rfl) T.g_is_ratio T.f_is_ratio.kp (b_is_ratio T) .nil pass0 (pa_cons (pv 2) pa_nil)))) (pss_one ps_never) pss_nil)))), ?_⟩
    refine ⟨_, rfl, _, rfl, (by show 2 ≤ sizeLine; decide), fun u hu => ⟨u, rfl, ⟨[.ref p, .ref q], Or.inl (Or.inl upd_same)⟩, ?_⟩⟩
    refine for_tup (K := K) (a := u) (xs := [.ref p, .ref q]) (fun i σ H' => Same (upd H u (.tup [.ref p, .ref q])) H' ∧ ∃ v : Option V, σ = [some (.ref p), some (.ref q), v])
      ⟨Same.refl _, none, rfl⟩ (fun i σ H' _ h => same_t h.1 (Or.inl (Or.inl upd_same))) ?_ ?_
    · rintro i x σ H' hx ⟨e1, v, rfl⟩
      have e0 : Same H H' := (same_new hu).trans e1
      have go : ∀ (z : Addr) (m n : Int), x = .ref z → Rat K H z m n → ∃ v d, x = v ∧ Jd K H' v d ∧ ratD d = true := fun z m n hz hr => ⟨_, _, hz, Jd.mono e0 _ _ hr.jd, hr.ok⟩
      have st : ∃ v d, x = v ∧ Jd K H' v d ∧ ratD d = true := by
        match i, hx with
        | 0, hx => cases hx; exact go p a b rfl r1
        | 1, hx => cases hx; exact go q c d rfl r2
        | n + 2, hx => simp at hx
      obtain ⟨v', d', rfl, j, ok⟩ := st
      refine ⟨_, rfl, _, _, rfl, j, fun H2 e2 => ⟨_, rfl, ?_⟩⟩
      rw [ok]
      exact iteF ⟨e1.trans e2, _, rfl⟩
    · rintro σ H' ⟨e1, v, rfl⟩
      exact k H' ((same_new hu).trans e1)
theorem mulw {a b : Int} (ha : isI (.int a) = true) (hb : isI (.int b) = true) : CMulW a b := wide_mul (isI_lt ha) (isI_lt hb) (by decide) (by decide) (by decide)
def sp_compare (K : PySem.W.Frag) : Sp := fun vs H Q _ => ∃ p q a b c d, vs = [.ref p, .ref q] ∧ Rat K H p a b ∧ Rat K H q c d ∧ ∀ H', Same H H' → Q (.int (cmp (a * d) (c * b))) H'
theorem ok_compare (T : Txt K mg A) : FnOk P w K mg base CX0 6 A.a_compare A.d_compare ["one", "other"] (sp_compare K) := by
  have G_need_ratios : FnOk P w K mg base CX0 5 A.a_need_ratios A.d_need_ratios ["one", "other"] (sp_need_ratios K) := ok_need_ratios T
  refine T.f_compare.ok sc_compare (fun vs H Q E h => ?_) (fun cdv B out t H vs Q E hr h => ?_)
  · obtain ⟨p, q, a, b, c, d, rfl, _⟩ := h
    rfl
  · obtain ⟨p, q, a, b, c, d, rfl, r1, r2, k⟩ := h
    refine ⟨_, (pss_cons (ps_expr (pe_call G_need_ratios (hr.mono (by decide)) (by rfl) T.g_need_ratios T.f_need_ratios.kp (b_need_ratios T) .nil pass0 (pa_cons (pv 0) (pa_cons (pv 1) pa_nil))))
      (pss_cons (ps_par (i := 2) (j := 3) (by rfl) sc_compare.nd rfl rfl (by decide) rfl rfl (pa_cons (pe_op op_mulW (pe_ix ix_tup (pv 0) pe_int (fun _ _ => rfl)) (pe_ix ix_tup (pv 1) pe_int (fun _ _ => rfl))) (pa_cons (pe_op op_mulW (pe_ix ix_tup (pv 1) pe_int (fun _ _ => rfl)) (pe_ix ix_tup (pv 0) pe_int (fun _ _ => rfl))) pa_nil)) (by rfl))
      (pss_one (ps_ret (pe_op op_sub (pe_callTy call_int1 (by rfl) T.n_int (by decide +kernel) (pa_cons (pe_cmpR op_gt (pv 2) (pv 3) (nomark _)) pa_nil)) (pe_callTy call_int1 (by rfl) T.n_int (by decide +kernel) (pa_cons (pe_cmpR op_lt (pv 2) (pv 3) (nomark _)) pa_nil))))))), ?_⟩
    obtain ⟨ia, ib, _, _⟩ := ratD_iff.mp r1.ok
    obtain ⟨ic, id, _, _⟩ := ratD_iff.mp r2.ok
    refine ⟨_, rfl, _, rfl, p, q, a, b, c, d, rfl, r1, r2, fun H1 e1 => ?_⟩
    have s1 := same_t e1 r1.at_
    have s2 := same_t e1 r2.at_
    refine ⟨_, rfl, p, _, _, _, rfl, rfl, s1, rfl, _, rfl, q, _, _, _, rfl, rfl, s2, rfl, _, _, rfl, rfl, mulw ia id, ?_⟩
    refine ⟨_, rfl, q, _, _, _, rfl, rfl, s2, rfl, _, rfl, p, _, _, _, rfl, rfl, s1, rfl, _, _, rfl, rfl, mulw ic ib, ?_⟩
    refine ⟨_, _, rfl, ?_⟩
    refine ⟨_, rfl, _, rfl, _, _, rfl, rfl, Or.inr ⟨_, rfl, _, rfl, _, rfl, _, _, rfl, rfl, Or.inr ⟨_, rfl, _, _, rfl, rfl, ?_⟩⟩⟩
    have q' := k H1 e1
    have e : ∀ x y : Int, ((if decide (y < x) = true then 1 else 0) - (if decide (x < y) = true then 1 else 0) : Int) = cmp x y := fun x y => by
      unfold cmp
      simp only [decide_eq_true_eq]
    show Q (V.int ((if decide (c * b < a * d) = true then 1 else 0) - (if decide (a * d < c * b) = true then 1 else 0))) H1
    rw [e]
    exact q'
def sp_plus (K : PySem.W.Frag) : Sp := fun vs H Q _ => ∃ p q a b c d, vs = [.ref p, .ref q] ∧ Rat K H p a b ∧ Rat K H q c d ∧ ∀ r H', Same H H' → H r = none → Two H' r (low (a * d + c * b) (b * d)) → Q (.ref r) H'
theorem prod_lt {b d : Int} (ib : isI (.int b) = true) (id : isI (.int d) = true) : (b * d).natAbs < 2 ^ 8000 :=
  Nat.lt_of_lt_of_le (wide_lt (isI_lt ib) (isI_lt id)) (Nat.pow_le_pow_right (by decide) (by decide))
theorem ok_plus (T : Txt K mg A) : FnOk P w K mg base CX0 6 A.a_plus A.d_plus ["one", "other"] (sp_plus K) := by
  have G_need_ratios : FnOk P w K mg base CX0 5 A.a_need_ratios A.d_need_ratios ["one", "other"] (sp_need_ratios K) := ok_need_ratios T
  have G_ratio_of : FnOk P w K mg base CX0 2 A.a_ratio_of A.d_ratio_of ["top", "bottom"] (sp_ratio_of K) := ok_ratio_of T
  refine T.f_plus.ok sc_plus (fun vs H Q E h => ?_) (fun cdv B out t H vs Q E hr h => ?_)
  · obtain ⟨p, q, a, b, c, d, rfl, _⟩ := h
    rfl
  · obtain ⟨p, q, a, b, c, d, rfl, r1, r2, k⟩ := h
    refine ⟨_, (pss_cons (ps_expr (pe_call G_need_ratios (hr.mono (by decide)) (by rfl) T.g_need_ratios T.f_need_ratios.kp (b_need_ratios T) .nil pass0 (pa_cons (pv 0) (pa_cons (pv 1) pa_nil))))
      (pss_one (ps_ret (pe_call G_ratio_of (hr.mono (by decide)) (by rfl) T.g_ratio_of T.f_ratio_of.kp (b_ratio_of T) .nil pass0 (pa_cons (pe_op op_add (pe_op op_mulW (pe_ix ix_tup (pv 0) pe_int (fun _ _ => rfl)) (pe_ix ix_tup (pv 1) pe_int (fun _ _ => rfl))) (pe_op op_mulW (pe_ix ix_tup (pv 1) pe_int (fun _ _ => rfl)) (pe_ix ix_tup (pv 0) pe_int (fun _ _ => rfl)))) (pa_cons (pe_op op_mulW (pe_ix ix_tup (pv 0) pe_int (fun _ _ => rfl)) (pe_ix ix_tup (pv 1) pe_int (fun _ _ => rfl))) pa_nil)))))), ?_⟩
    obtain ⟨ia, ib, pb, _⟩ := ratD_iff.mp r1.ok
    obtain ⟨ic, id, pd, _⟩ := ratD_iff.mp r2.ok
    refine ⟨_, rfl, _, rfl, p, q, a, b, c, d, rfl, r1, r2, fun H1 e1 => ?_⟩
    have s1 := same_t e1 r1.at_
    have s2 := same_t e1 r2.at_
    refine ⟨_, rfl, p, _, _, _, rfl, rfl, s1, rfl, _, rfl, q, _, _, _, rfl, rfl, s2, rfl, _, _, rfl, rfl, mulw ia id, ?_⟩
    refine ⟨_, rfl, q, _, _, _, rfl, rfl, s2, rfl, _, rfl, p, _, _, _, rfl, rfl, s1, rfl, _, _, rfl, rfl, mulw ic ib, _, _, rfl, rfl, ?_⟩
    refine ⟨_, rfl, p, _, _, _, rfl, rfl, s1, rfl, _, rfl, q, _, _, _, rfl, rfl, s2, rfl, _, _, rfl, rfl, mulw ib id, ?_⟩
    exact ⟨_, _, rfl, Int.ne_of_gt (Int.mul_pos pb pd), prod_lt ib id, fun r H' e hr two => k r H' (e1.trans e) (e1.free hr) two⟩
def sp_minus (K : PySem.W.Frag) : Sp := fun vs H Q _ => ∃ p q a b c d, vs = [.ref p, .ref q] ∧ Rat K H p a b ∧ Rat K H q c d ∧ ∀ r H', Same H H' → H r = none → Two H' r (low (a * d - c * b) (b * d)) → Q (.ref r) H'
theorem ok_minus (T : Txt K mg A) : FnOk P w K mg base CX0 6 A.a_minus A.d_minus ["one", "other"] (sp_minus K) := by
  have G_need_ratios : FnOk P w K mg base CX0 5 A.a_need_ratios A.d_need_ratios ["one", "other"] (sp_need_ratios K) := ok_need_ratios T
  have G_ratio_of : FnOk P w K mg base CX0 2 A.a_ratio_of A.d_ratio_of ["top", "bottom"] (sp_ratio_of K) := ok_ratio_of T
  refine T.f_minus.ok sc_minus (fun vs H Q E h => ?_) (fun cdv B out t H vs Q E hr h => ?_)
  · obtain ⟨p, q, a, b, c, d, rfl, _⟩ := h
    rfl
  · obtain ⟨p, q, a, b, c, d, rfl, r1, r2, k⟩ := h
    refine ⟨_, (pss_cons (ps_expr (pe_call G_need_ratios (hr.mono (by decide)) (by rfl) T.g_need_ratios T.f_need_ratios.kp (b_need_ratios T) .nil pass0 (pa_cons (pv 0) (pa_cons (pv 1) pa_nil))))
      (pss_one (ps_ret (pe_call G_ratio_of (hr.mono (by decide)) (by rfl) T.g_ratio_of T.f_ratio_of.kp (b_ratio_of T) .nil pass0 (pa_cons (pe_op op_sub (pe_op op_mulW (pe_ix ix_tup (pv 0) pe_int (fun _ _ => rfl)) (pe_ix ix_tup (pv 1) pe_int (fun _ _ => rfl))) (pe_op op_mulW (pe_ix ix_tup (pv 1) pe_int (fun _ _ => rfl)) (pe_ix ix_tup (pv 0) pe_int (fun _ _ => rfl)))) (pa_cons (pe_op op_mulW (pe_ix ix_tup (pv 0) pe_int (fun _ _ => rfl)) (pe_ix ix_tup (pv 1) pe_int (fun _ _ => rfl))) pa_nil)))))), ?_⟩
    obtain ⟨ia, ib, pb, _⟩ := ratD_iff.mp r1.ok
    obtain ⟨ic, id, pd, _⟩ := ratD_iff.mp r2.ok
    refine ⟨_, rfl, _, rfl, p, q, a, b, c, d, rfl, r1, r2, fun H1 e1 => ?_⟩
    have s1 := same_t e1 r1.at_
    have s2 := same_t e1 r2.at_
    refine ⟨_, rfl, p, _, _, _, rfl, rfl, s1, rfl, _, rfl, q, _, _, _, rfl, rfl, s2, rfl, _, _, rfl, rfl, mulw ia id, ?_⟩
    refine ⟨_, rfl, q, _, _, _, rfl, rfl, s2, rfl, _, rfl, p, _, _, _, rfl, rfl, s1, rfl, _, _, rfl, rfl, mulw ic ib, _, _, rfl, rfl, ?_⟩
    refine ⟨_, rfl, p, _, _, _, rfl, rfl, s1, rfl, _, rfl, q, _, _, _, rfl, rfl, s2, rfl, _, _, rfl, rfl, mulw ib id, ?_⟩
    exact ⟨_, _, rfl, Int.ne_of_gt (Int.mul_pos pb pd), prod_lt ib id, fun r H' e hr two => k r H' (e1.trans e) (e1.free hr) two⟩
def sp_times (K : PySem.W.Frag) : Sp := fun vs H Q _ => ∃ p q a b c d, vs = [.ref p, .ref q] ∧ Rat K H p a b ∧ Rat K H q c d ∧ ∀ r H', Same H H' → H r = none → Two H' r (low (a * c) (b * d)) → Q (.ref r) H'
theorem ok_times (T : Txt K mg A) : FnOk P w K mg base CX0 6 A.a_times A.d_times ["one", "other"] (sp_times K) := by
  have G_need_ratios : FnOk P w K mg base CX0 5 A.a_need_ratios A.d_need_ratios ["one", "other"] (sp_need_ratios K) := ok_need_ratios T
  have G_ratio_of : FnOk P w K mg base CX0 2 A.a_ratio_of A.d_ratio_of ["top", "bottom"] (sp_ratio_of K) := ok_ratio_of T
  refine T.f_times.ok sc_times (fun vs H Q E h => ?_) (fun cdv B out t H vs Q E hr h => ?_)
  · obtain ⟨p, q, a, b, c, d, rfl, _⟩ := h
    rfl
  · obtain ⟨p, q, a, b, c, d, rfl, r1, r2, k⟩ := h
    refine ⟨_, (pss_cons (ps_expr (pe_call G_need_ratios (hr.mono (by decide)) (by rfl) T.g_need_ratios T.f_need_ratios.kp (b_need_ratios T) .nil pass0 (pa_cons (pv 0) (pa_cons (pv 1) pa_nil))))
      (pss_one (ps_ret (pe_call G_ratio_of (hr.mono (by decide)) (by rfl) T.g_ratio_of T.f_ratio_of.kp (b_ratio_of T) .nil pass0 (pa_cons (pe_op op_mulW (pe_ix ix_tup (pv 0) pe_int (fun _ _ => rfl)) (pe_ix ix_tup (pv 1) pe_int (fun _ _ => rfl))) (pa_cons (pe_op op_mulW (pe_ix ix_tup (pv 0) pe_int (fun _ _ => rfl)) (pe_ix ix_tup (pv 1) pe_int (fun _ _ => rfl))) pa_nil)))))), ?_⟩
    obtain ⟨ia, ib, pb, _⟩ := ratD_iff.mp r1.ok
    obtain ⟨ic, id, pd, _⟩ := ratD_iff.mp r2.ok
    refine ⟨_, rfl, _, rfl, p, q, a, b, c, d, rfl, r1, r2, fun H1 e1 => ?_⟩
    have s1 := same_t e1 r1.at_
    have s2 := same_t e1 r2.at_
    refine ⟨_, rfl, p, _, _, _, rfl, rfl, s1, rfl, _, rfl, q, _, _, _, rfl, rfl, s2, rfl, _, _, rfl, rfl, mulw ia ic, ?_⟩
    refine ⟨_, rfl, p, _, _, _, rfl, rfl, s1, rfl, _, rfl, q, _, _, _, rfl, rfl, s2, rfl, _, _, rfl, rfl, mulw ib id, ?_⟩
    exact ⟨_, _, rfl, Int.ne_of_gt (Int.mul_pos pb pd), prod_lt ib id, fun r H' e hr two => k r H' (e1.trans e) (e1.free hr) two⟩
end
end K01

set_option maxHeartbeats 2000000
namespace K01
open PySem PySem.Spec PyProof.Rows L2 My M01
section
variable {P : Program} {w : World} {K : PySem.W.Frag} {mg : Str → Option Value} {base : Heap} {A : Adr}
def sp_bag (K : PySem.W.Frag) : Sp := fun vs H Q _ => ∃ (a : Addr) (ns : List Int) (s : Int), vs = [.ref a, .int s] ∧ SqL K H a (ns.map V.int) ∧ 0 ≤ s ∧ s < 100 ∧ ∀ p H', Same H H' → H p = none → Bag H' p → Q (.ref p) H'
theorem fmod_nn {x m : Int} (h : 0 < m) : 0 ≤ x.fmod m := by
  rw [Int.fmod_eq_emod_of_nonneg _ (by omega)]
  exact Int.emod_nonneg _ (by omega)
theorem fmod_lt {x m : Int} (h : 0 < m) : x.fmod m < m := by
  rw [Int.fmod_eq_emod_of_nonneg _ (by omega)]
  exact Int.emod_lt_of_pos _ h
def cutI (ns : List Int) : List Int := (ns.drop (HT.sIx ns.length 0 none)).take (HT.sIx ns.length ns.length (some 1) - HT.sIx ns.length 0 none)
theorem cutI_eq (ns : List Int) : cutV (ns.map V.int) none (some 1) = (cutI ns).map V.int := by
  unfold cutV cutI
  rw [List.length_map, ← List.map_drop, ← List.map_take]
theorem max0 (j : Int) : 0 ≤ (if j > 0 then j else 0) := by split <;> omega
theorem big_ne : ((10 ^ (45 : Int).toNat) ^ (13 : Int).toNat : Int) ≠ 0 := by decide +kernel
theorem ne_a : (2305843009213693723 : Int) ≠ 0 := by decide
theorem ne_b : (2305843009213693951 : Int) ≠ 0 := by decide
theorem ok__law_bag (T : Txt K mg A) : FnOk P w K mg base CX0 1 A.a__law_bag A.d__law_bag ["_law_script", "_law_spot"] (sp_bag K) := by
  refine T.f__law_bag.ok sc__law_bag (fun vs H Q E h => ?_) (fun cdv B out t H vs Q E hr h => ?_)
  · obtain ⟨a, ns, s, rfl, _⟩ := h
    rfl
  · obtain ⟨a, ns, s, rfl, hs, h0, h1, q⟩ := h
    refine ⟨_, (pss_cons (ps_set (i := 2) sc__law_bag.nd rfl (Or.inl rfl) (pe_ifExp (pt_cmpR op_lt (pv 1) (pe_callB call_len_seq (by rfl) T.n_len (by decide +kernel) (pa_cons (pv 0) pa_nil)) (nomark _)) (pe_ix ix_list (pv 0) (pv 1) (fun _ _ => rfl)) (pe_op op_add (pe_op op_add (pe_callB (cr_sum rfl) (by rfl) T.n_sum (by decide +kernel) (pa_cons (pe_slice sl_list (pv 0) po_none (po_some pe_int)) pa_nil)) (pe_op op_mul pe_int (pv 1))) pe_int)))
      (pss_cons (ps_set (i := 3) sc__law_bag.nd rfl (Or.inl rfl) (pe_op op_modN (pe_callTy call_int1 (by rfl) T.n_int (by decide +kernel) (pa_cons (pe_callB call_abs (by rfl) T.n_abs (by decide +kernel) (pa_cons (pv 2) pa_nil)) pa_nil)) (pe_op op_powW (pe_op op_powW pe_int pe_int) pe_int)))
      (pss_cons (ps_set (i := 4) sc__law_bag.nd rfl (Or.inl rfl) (pe_op op_add (pe_op op_add (pe_op op_add (pe_op op_mul (pe_op op_modN (pe_callTy call_int1 (by rfl) T.n_int (by decide +kernel) (pa_cons (pv 3) pa_nil)) pe_int) pe_int) (pe_op op_mul pe_int (pv 1))) (pe_op op_mul pe_int (pe_callTy call_int1 (by rfl) T.n_int (by decide +kernel) (pa_cons (pe_cmpR op_lt (pv 2) pe_int (nomark _)) pa_nil)))) pe_int))
      (pss_one (ps_ret (pe_lst (pa_cons (pe_callB (call_max2 rfl) (by rfl) T.n_max (by decide +kernel) (pa_cons pe_int (pa_cons (pe_op op_sub (pv 3) (pe_op op_powW pe_int pe_int)) pa_nil))) (pa_cons (pe_op op_modN (pe_callTy call_int1 (by rfl) T.n_int (by decide +kernel) (pa_cons (pv 4) pa_nil)) pe_int) (pa_cons pe_int pa_nil))))))))), ?_⟩
    refine ⟨_, rfl, _, rfl, a, _, rfl, Or.inl hs, _, _, rfl, rfl, _, rfl, ?_⟩
    have fin : ∀ (x y : Int) (H1 : Hp), Same H H1 → 0 ≤ x → ∀ p, H1 p = none → 0 ≤ y → y < 2305843009213693951 → Q (.ref p) (upd H1 p (.lst [.int x, .int y, .int 0])) := fun x y H1 e hx p hp hy hy2 =>
      q p _ (e.trans (same_new hp)) (e.free hp) ⟨x, y, 0, upd_same, hx, hy, hy2⟩
    refine ite2 (fun c1 => ?_) (fun c1 => ?_)
    · have c2 : s.toNat < ns.length := by
        have c3 := of_decide_eq_true c1
        rw [List.length_map] at c3
        omega
      have hx : (ns.map V.int)[s.toNat]? = some (.int ns[s.toNat]) := by
        rw [List.getElem?_map, List.getElem?_eq_getElem c2]
        rfl
      refine ⟨_, rfl, _, rfl, a, _, s, _, rfl, rfl, hs, at_of (by omega) hx, ?_⟩
      generalize ns[s.toNat] = c
      refine ⟨_, rfl, _, rfl, Or.inl ⟨_, rfl, _, _, rfl, rfl, ⟨by decide, by decide +kernel⟩, _, _, rfl, rfl, ⟨by decide, by decide +kernel⟩, _, _, rfl, rfl, big_ne, ?_⟩⟩
      refine ⟨_, rfl, Or.inl ⟨_, rfl, _, _, rfl, rfl, ne_a, _, _, rfl, rfl, Or.inr ⟨by decide, by decide⟩, ?_⟩⟩
      refine ⟨_, rfl, _, _, rfl, rfl, Or.inl ⟨by decide, by decide⟩, _, _, rfl, rfl, ?_⟩
      refine ⟨_, rfl, _, _, rfl, rfl, Or.inr ⟨_, rfl, _, _, rfl, rfl, Or.inl ⟨by decide, by decide⟩, _, _, rfl, rfl, _, _, rfl, rfl, ?_⟩⟩
      refine ⟨_, rfl, _, _, rfl, rfl, ⟨by decide, by decide +kernel⟩, _, _, rfl, rfl, _, _, rfl, ?_⟩
      refine ⟨_, rfl, Or.inl ⟨_, rfl, _, _, rfl, rfl, ne_b, (by show 3 ≤ sizeLine; decide), fun p hp => ?_⟩⟩
      exact fin _ _ H (Same.refl _) (max0 _) p hp (fmod_nn (by decide)) (fmod_lt (by decide))
    · refine ⟨_, rfl, 1, rfl, a, _, rfl, hs, fun p0 hp0 => ⟨p0, cutI ns, rfl, Evl.sq_of ?_, _, rfl, _, _, rfl, rfl, Or.inl ⟨by decide, by decide⟩, _, _, rfl, rfl, _, _, rfl, rfl, ?_⟩⟩
      · rw [upd_same, cutI_eq]
      refine ⟨_, rfl, _, rfl, Or.inl ⟨_, rfl, _, _, rfl, rfl, ⟨by decide, by decide +kernel⟩, _, _, rfl, rfl, ⟨by decide, by decide +kernel⟩, _, _, rfl, rfl, big_ne, ?_⟩⟩
      refine ⟨_, rfl, Or.inl ⟨_, rfl, _, _, rfl, rfl, ne_a, _, _, rfl, rfl, Or.inr ⟨by decide, by decide⟩, ?_⟩⟩
      refine ⟨_, rfl, _, _, rfl, rfl, Or.inl ⟨by decide, by decide⟩, _, _, rfl, rfl, ?_⟩
      refine ⟨_, rfl, _, _, rfl, rfl, Or.inr ⟨_, rfl, _, _, rfl, rfl, Or.inl ⟨by decide, by decide⟩, _, _, rfl, rfl, _, _, rfl, rfl, ?_⟩⟩
      refine ⟨_, rfl, _, _, rfl, rfl, ⟨by decide, by decide +kernel⟩, _, _, rfl, rfl, _, _, rfl, ?_⟩
      refine ⟨_, rfl, Or.inl ⟨_, rfl, _, _, rfl, rfl, ne_b, (by show 3 ≤ sizeLine; decide), fun p hp => ?_⟩⟩
      exact fin _ _ _ (same_new hp0) (max0 _) p hp (fmod_nn (by decide)) (fmod_lt (by decide))
end
end K01

set_option maxHeartbeats 2000000
namespace K01
open PySem PySem.Spec PyProof.Rows L2 My M01
section
variable {P : Program} {w : World} {K : PySem.W.Frag} {mg : Str → Option Value} {base : Heap} {A : Adr}
def sp_grab : Sp := fun vs H Q _ => ∃ (b : Addr) (n : Int), vs = [.ref b, .int n] ∧ Bag H b ∧ 0 < n ∧ n.natAbs.log2 < 9000 ∧
  ∀ r H', 0 ≤ r → r < n → But b H H' → Bag H' b → Q (.int r) H'
theorem fdiv_nn {x m : Int} (h0 : 0 ≤ x) (h : 0 < m) : 0 ≤ x.fdiv m := by
  rw [Int.fdiv_eq_ediv_of_nonneg _ (by omega)]
  exact Int.ediv_nonneg h0 (by omega)
theorem mul_ok {x m j : Int} (h : 0 < m) (h2 : m ≤ 2305843009213693951) : CMul (x.fmod m) j := by
  have h3 := fmod_nn (x := x) h
  have h4 := fmod_lt (x := x) h
  exact Or.inl ⟨by omega, by omega⟩
theorem ok__law_grab (T : Txt K mg A) : FnOk P w K mg base CX0 1 A.a__law_grab A.d__law_grab ["_law_bag_here", "_law_total"] sp_grab := by
  refine T.f__law_grab.ok sc__law_grab (fun vs H Q E h => ?_) (fun cdv B out t H vs Q E hr h => ?_)
  · obtain ⟨b, n, rfl, _⟩ := h
    rfl
  · obtain ⟨b, n, rfl, bag, hn, hz, q⟩ := h
    refine ⟨_, (pss_cons (ps_if (pt_cmpR op_gt (pe_ix ix_list (pv 0) pe_int (fun _ _ => rfl)) pe_int (nomark _)) (pss_cons (ps_set (i := 2) sc__law_grab.nd rfl (Or.inl rfl) (pe_op op_modN (pe_callTy call_int1 (by rfl) T.n_int (by decide +kernel) (pa_cons (pe_ix ix_list (pv 0) pe_int (fun _ _ => rfl)) pa_nil)) (pv 1)))
      (pss_cons (ps_asg (pe_op op_fdivA (pe_ix ix_list (pv 0) pe_int (fun _ _ => rfl)) (pv 1)) (pg_sub (pv 0) pe_int set_list))
      (pss_one (ps_ret (pv 2))))) pss_nil)
      (pss_cons (ps_asg (pe_op op_add (pe_ix ix_list (pv 0) pe_int (fun _ _ => rfl)) pe_int) (pg_sub (pv 0) pe_int set_list))
      (pss_cons (ps_set (i := 3) sc__law_grab.nd rfl (Or.inl rfl) (pe_op op_modN (pe_callTy call_int1 (by rfl) T.n_int (by decide +kernel) (pa_cons (pe_op op_add (pe_ix ix_list (pv 0) pe_int (fun _ _ => rfl)) (pe_op op_mul pe_int (pe_ix ix_list (pv 0) pe_int (fun _ _ => rfl)))) pa_nil)) pe_int))
      (pss_cons (ps_set (i := 4) sc__law_grab.nd rfl (Or.inl rfl) (pe_op op_add (pe_op op_mul (pe_op op_modN (pe_callTy call_int1 (by rfl) T.n_int (by decide +kernel) (pa_cons (pe_op op_mul (pv 3) (pv 3)) pa_nil)) pe_int) (pv 3)) (pe_op op_mul pe_int (pe_ix ix_list (pv 0) pe_int (fun _ _ => rfl)))))
      (pss_one (ps_ret (pe_op op_modN (pe_callTy call_int1 (by rfl) T.n_int (by decide +kernel) (pa_cons (pe_op op_fdivN (pe_op op_modN (pe_callTy call_int1 (by rfl) T.n_int (by decide +kernel) (pa_cons (pv 4) pa_nil)) pe_int) pe_int) pa_nil)) (pv 1)))))))), ?_⟩
    obtain ⟨x, y, z, hb, hx, hy, hy2⟩ := bag
    have sq : SqL K H b [.int x, .int y, .int z] := Evl.sq_of hb
    refine ⟨_, rfl, b, _, _, _, rfl, rfl, sq, rfl, _, _, rfl, rfl, _, rfl, ?_⟩
    refine ite2 (fun c1 => ?_) (fun c1 => ?_)
    · refine ⟨_, rfl, b, _, _, _, rfl, rfl, sq, rfl, Or.inl ⟨_, rfl, _, rfl, _, _, rfl, rfl, Int.ne_of_gt hn, ?_⟩⟩
      refine ⟨_, rfl, b, _, _, _, rfl, rfl, sq, rfl, _, rfl, _, _, rfl, rfl, ⟨Int.ne_of_gt hn, hz⟩, ?_⟩
      refine ⟨_, rfl, b, _, _, 0, rfl, rfl, hb, rfl, ?_⟩
      refine ⟨_, rfl, ?_⟩
      exact q _ _ (fmod_nn hn) (fmod_lt hn) But.put ⟨_, y, z, upd_same, fdiv_nn hx hn, hy, hy2⟩
    · refine ⟨_, rfl, b, _, _, _, rfl, rfl, sq, rfl, _, _, rfl, rfl, ?_⟩
      refine ⟨_, rfl, b, _, _, 2, rfl, rfl, hb, rfl, ?_⟩
      have sq2 : SqL K (upd H b (.lst ([V.int x, V.int y, V.int z].set 2 (.int (z + 1))))) b [.int x, .int y, .int (z + 1)] := Evl.sq_of upd_same
      refine ⟨_, rfl, b, _, _, _, rfl, rfl, sq2, rfl, _, rfl, b, _, _, _, rfl, rfl, sq2, rfl, _, _, rfl, rfl, Or.inl ⟨by decide, by decide⟩, _, _, rfl, rfl, Or.inl ⟨_, rfl, _, _, rfl, rfl, ne_b, ?_⟩⟩
      refine ⟨_, rfl, _, rfl, _, _, rfl, rfl, mul_ok (by decide) (by decide), Or.inl ⟨_, rfl, _, _, rfl, rfl, ne_a, _, rfl, _, _, rfl, rfl, mul_ok (by decide) (by decide), ?_⟩⟩
      refine ⟨_, rfl, b, _, _, _, rfl, rfl, sq2, rfl, _, _, rfl, rfl, Or.inl ⟨by decide, by decide⟩, _, _, rfl, rfl, ?_⟩
      refine ⟨_, rfl, Or.inl ⟨_, rfl, _, _, rfl, rfl, by exact (by decide : (2305843009213693921 : Int) ≠ 0), _, _, rfl, rfl, ⟨by decide, by decide⟩, Or.inl ⟨_, rfl, _, rfl, _, _, rfl, rfl, Int.ne_of_gt hn, ?_⟩⟩⟩
      exact q _ _ (fmod_nn hn) (fmod_lt hn) But.put ⟨x, y, z + 1, upd_same, hx, hy, hy2⟩
def sp_one_of (K : PySem.W.Frag) : Sp := fun vs H Q _ => ∃ (b p : Addr) (xs : List V), vs = [.ref b, .ref p] ∧ Bag H b ∧ p ≠ b ∧ SqL K H p xs ∧ xs ≠ [] ∧ xs.length < 1000 ∧
  ∀ v H', v ∈ xs → But b H H' → Bag H' b → Q v H'
theorem log_small {n : Nat} (h : n < 1000) : (n : Int).natAbs.log2 < 9000 := by
  have h1 := PySem.Flt.log2_lt_of (by omega : 0 < 10) (show (n : Int).natAbs < 2 ^ 10 by omega)
  omega
theorem ok__law_one_of (T : Txt K mg A) : FnOk P w K mg base CX0 2 A.a__law_one_of A.d__law_one_of ["_law_bag_here", "_law_items"] (sp_one_of K) := by
  have G__law_grab : FnOk P w K mg base CX0 1 A.a__law_grab A.d__law_grab ["_law_bag_here", "_law_total"] sp_grab := ok__law_grab T
  refine T.f__law_one_of.ok sc__law_one_of (fun vs H Q E h => ?_) (fun cdv B out t H vs Q E hr h => ?_)
  · obtain ⟨b, p, xs, rfl, _⟩ := h
    rfl
  · obtain ⟨b, p, xs, rfl, bag, hp, hs, hne, hz, q⟩ := h
    refine ⟨_, (pss_one (ps_ret (pe_ix ix_list (pv 1) (pe_call G__law_grab (hr.mono (by decide)) (by rfl) T.g__law_grab T.f__law_grab.kp (b__law_grab T) .nil pass0 (pa_cons (pv 0) (pa_cons (pe_callB call_len_seq (by rfl) T.n_len (by decide +kernel) (pa_cons (pv 1) pa_nil)) pa_nil))) (fun _ _ => rfl)))), ?_⟩
    have hl : 0 < xs.length := List.length_pos_iff.mpr hne
    refine ⟨_, rfl, _, rfl, _, rfl, p, xs, rfl, Or.inl hs, b, _, rfl, bag, by omega, log_small hz, fun r H' h0 h1 e bag' => ?_⟩
    have hk : r.toNat < xs.length := by omega
    exact ⟨p, xs, r, xs[r.toNat], rfl, rfl, e.l hp hs, at_of (by omega) (List.getElem?_eq_getElem hk), q _ _ (List.getElem_mem hk) e bag'⟩
end
end K01

set_option maxHeartbeats 2000000
namespace K01
open PySem PySem.Spec PyProof.Rows L2 My M01
section
variable {P : Program} {w : World} {K : PySem.W.Frag} {mg : Str → Option Value} {base : Heap} {A : Adr}
theorem ok__law_divisor (T : Txt K mg A) : FnOk P w K mg base CX0 1 A.a__law_divisor A.d__law_divisor ["_law_numbers"] (sp_divisor_of K) := by
  refine T.f__law_divisor.ok sc__law_divisor (fun vs H Q E h => ?_) (fun cdv B out t H vs Q E hr h => ?_)
  · obtain ⟨a, ns, rfl, _⟩ := h
    rfl
  · obtain ⟨a, ns, rfl, hs, q⟩ := h
    refine ⟨_, (pss_cons (ps_set (i := 1) sc__law_divisor.nd rfl (Or.inl rfl) pe_int)
      (pss_cons (ps_for PassesOwn.never rfl (pi_tup (pv 0)) (pg_name (i := 2) sc__law_divisor.nd rfl (Or.inl rfl)) (pss_cons (ps_set (i := 3) sc__law_divisor.nd rfl (Or.inl rfl) (pe_callB call_abs (by rfl) T.n_abs (by decide +kernel) (pa_cons (pv 2) pa_nil)))
      (pss_one (ps_while PassesOwn.never (pt_cmpR op_gt (pv 3) pe_int (nomark _)) (pss_one (ps_par (i := 1) (j := 3) (by rfl) sc__law_divisor.nd rfl rfl (by decide) rfl rfl (pa_cons (pv 3) (pa_cons (pe_op op_modN (pv 1) (pv 3)) pa_nil)) (by rfl)))))))
      (pss_one (ps_ret (pv 1))))), ?_⟩
    refine ⟨_, rfl, a, rfl, ⟨_, hs⟩, for_tup (K := K) (a := a) (xs := ns.map V.int) (fun i σ H' => H' = H ∧ ∃ v u : Option V, σ = [some (.ref a), some (.int (gcdL (ns.take i))), v, u])
      ⟨rfl, none, none, rfl⟩ (fun i σ H' _ h => by rw [h.1]; exact hs) ?_ ?_⟩
    · rintro i x σ H' hx ⟨rfl, v, u, rfl⟩
      rw [List.getElem?_map] at hx
      cases e : ns[i]? with
      | none => rw [e] at hx; cases hx
      | some n =>
        rw [e] at hx
        cases hx
        have g0 := gcdL_nonneg (ns.take i)
        refine ⟨_, rfl, _, rfl, ?_⟩
        refine while_by (fun σ H1 => H1 = H' ∧ ∃ f o : Int, 0 ≤ f ∧ 0 ≤ o ∧ ((Nat.gcd f.natAbs o.natAbs : Nat) : Int) = gcdL (ns.take (i + 1)) ∧ σ = [some (.ref a), some (.int f), some (.int n), some (.int o)])
          (fun σ _ => match σ with | [_, _, _, some (.int o)] => o.toNat | _ => 0) ?_ ?_ ?_
        · refine ⟨rfl, _, _, g0, ?_, ?_, rfl⟩
          · split <;> omega
          · rw [take_next e, gcdL_snoc]
            congr 2
            split <;> omega
        · rintro σ H1 ⟨rfl, f, o, f0, o0, hg, rfl⟩
          refine ⟨_, rfl, _, _, rfl, rfl, _, rfl, ?_⟩
          refine ite2 (fun c => ?_) (fun c => ?_)
          · have c' : 0 < o := of_decide_eq_true c
            refine ⟨_, rfl, _, rfl, _, rfl, _, _, rfl, rfl, Int.ne_of_gt c', _, _, rfl, ⟨rfl, o, f.fmod o, o0, fmod_nn c', ?_, rfl⟩, ?_⟩
            · rw [← hg]
              have e1 : f.fmod o = ((f.natAbs % o.natAbs : Nat) : Int) := by
                rw [Int.fmod_eq_emod_of_nonneg _ o0]
                rw [Int.natCast_emod]
                congr 1 <;> omega
              rw [e1, Int.natAbs_natCast, Nat.gcd_comm f.natAbs o.natAbs, Nat.gcd_rec o.natAbs f.natAbs, Nat.gcd_comm]
            · show (f.fmod o).toNat < o.toNat
              have h1 := fmod_nn (x := f) c'
              have h2 := fmod_lt (x := f) c'
              omega
          · have c' : ¬ 0 < o := fun z => c (decide_eq_true z)
            obtain rfl : o = 0 := by omega
            refine ⟨rfl, some (.int n), some (.int 0), ?_⟩
            rw [← hg]
            simp only [Int.natAbs_zero, Nat.gcd_zero_right]
            rw [Int.natAbs_of_nonneg f0]
        · rintro σ H1 Q1 Q2 k ⟨v, hv, i, j, h1, h2, b, h3, h4⟩
          exact ⟨v, hv, i, j, h1, h2, b, h3, k _ _ h4⟩
    · rintro σ H' ⟨rfl, v, u, rfl⟩
      rw [List.length_map, List.take_length]
      exact ⟨_, rfl, q⟩
def sp_whole : Sp := fun vs H Q _ => ∃ (b : Addr) (n : Int), vs = [.ref b, .int n] ∧ Bag H b ∧ 0 ≤ n ∧ n.natAbs < 2 ^ 200 ∧
  ∀ r H', -n ≤ r → r ≤ n → But b H H' → Bag H' b → Q (.int r) H'
theorem log_big {n : Int} {k : Nat} (h : n.natAbs < 2 ^ k) (h2 : k ≤ 8000) (h3 : 0 < k) : n.natAbs.log2 < 9000 := by
  have h1 := PySem.Flt.log2_lt_of h3 h
  omega
theorem ok__law_whole (T : Txt K mg A) : FnOk P w K mg base CX0 2 A.a__law_whole A.d__law_whole ["_law_bag_here", "_law_high"] sp_whole := by
  have G__law_grab : FnOk P w K mg base CX0 1 A.a__law_grab A.d__law_grab ["_law_bag_here", "_law_total"] sp_grab := ok__law_grab T
  refine T.f__law_whole.ok sc__law_whole (fun vs H Q E h => ?_) (fun cdv B out t H vs Q E hr h => ?_)
  · obtain ⟨b, n, rfl, _⟩ := h
    rfl
  · obtain ⟨b, n, rfl, bag, h0, hz, q⟩ := h
    refine ⟨_, (pss_one (ps_ret (pe_op op_sub (pe_call G__law_grab (hr.mono (by decide)) (by rfl) T.g__law_grab T.f__law_grab.kp (b__law_grab T) .nil pass0 (pa_cons (pv 0) (pa_cons (pe_op op_add (pe_op op_mul pe_int (pv 1)) pe_int) pa_nil))) (pv 1)))), ?_⟩
    have hz2 : (2 * n + 1).natAbs < 2 ^ 202 := by
      have : (2 : Nat) ^ 202 = 4 * 2 ^ 200 := by decide
      generalize (2 : Nat) ^ 200 = y at *
      omega
    refine ⟨_, rfl, _, rfl, _, _, rfl, rfl, Or.inl ⟨by decide, by decide⟩, _, _, rfl, rfl, b, _, rfl, bag, by omega, log_big hz2 (by decide) (by decide), fun r H' h1 h2 e bag' => ?_⟩
    exact ⟨_, rfl, _, _, rfl, rfl, q _ _ (by omega) (by omega) e bag'⟩
theorem abs_lt (i : Int) : decide ((if i < 0 then -i else i) < 10 ^ 60) = isI (.int i) := by
  have e : isI (.int i) = (decide (-(10 ^ 60) < i) && decide (i < 10 ^ 60)) := rfl
  rw [e, ← Bool.decide_and]
  congr 1
  generalize (10 : Int) ^ 60 = z
  apply propext
  split <;> constructor <;> intro h <;> omega
theorem ok__law_is_short (T : Txt K mg A) : FnOk P w K mg base CX0 1 A.a__law_is_short A.d__law_is_short ["_law_value"] (sp_is_integer K) := by
  refine T.f__law_is_short.ok sc__law_is_short (fun vs H Q E h => ?_) (fun cdv B out t H vs Q E hr h => ?_)
  · obtain ⟨v, d, rfl, _⟩ := h
    rfl
  · obtain ⟨v, d, rfl, j, q⟩ := h
    refine ⟨_, (pss_one (ps_ret (pe_and (pe_callB call_isi (by rfl) T.n_isinstance (by decide +kernel) (pa_cons (pv 0) (pa_cons (pe_bltn (v := .ty "int") (by rfl) T.n_int (by decide +kernel) rfl) pa_nil))) (pe_and (pe_not (pe_callB call_isi (by rfl) T.n_isinstance (by decide +kernel) (pa_cons (pv 0) (pa_cons (pe_bltn (v := .ty "bool") (by rfl) T.n_bool (by decide +kernel) rfl) pa_nil)))) (pe_one (pe_cmpR op_lt (pe_callB call_abs (by rfl) T.n_abs (by decide +kernel) (pa_cons (pv 0) pa_nil)) (pe_op op_pow pe_int pe_int) (nomark _))))))), ?_⟩
    refine ⟨_, rfl, _, _, _, _, _, rfl, .ty "int", j.ty, kit_ty (kit_int d), ⟨_, rfl, ?_⟩⟩
    have q' : Q (.bl (isI d)) H := q
    cases d
    case int i =>
      cases j
      refine iteT ⟨_, rfl, _, _, _, _, _, rfl, .ty "bool", (Jd.int i).ty, kit_ty (kit_bool _), ⟨_, rfl, _, rfl, iteT ?_⟩⟩
      refine ⟨_, rfl, _, rfl, _, _, rfl, rfl, ⟨by decide, by decide, by decide⟩, _, _, rfl, rfl, ?_⟩
      rw [← abs_lt] at q'
      exact q'
    case bool b =>
      cases j
      exact iteT ⟨_, rfl, _, _, _, _, _, rfl, .ty "bool", (Jd.bl b).ty, kit_ty (kit_bool _), ⟨_, rfl, _, rfl, iteF q'⟩⟩
    all_goals exact iteF q'
end
end K01

set_option maxHeartbeats 400000
namespace K01
open PySem PySem.Spec PyProof.Rows L2 My M01
section
variable {P : Program} {w : World} {K : PySem.W.Frag} {mg : Str → Option Value} {base : Heap} {A : Adr}
theorem ratD_len {ds : List PyData} (h : (ds.length : Int) ≠ 2) : ratD (.tuple ds) = false := by
  unfold ratD
  split
  · rename_i a b e
    cases e
    simp at h
  · rfl
theorem two_of {H : Hp} : ∀ {xs : List V} {ds : List PyData}, JdAll K H xs ds → (xs.length : Int) = 2 → ∃ x y d e, xs = [x, y] ∧ ds = [d, e] ∧ Jd K H x d ∧ Jd K H y e
  | _, _, .nil, h => by simp at h
  | _, _, .cons a .nil, h => by simp at h
  | _, _, .cons a (.cons b .nil), _ => ⟨_, _, _, _, rfl, rfl, a, b⟩
  | _, _, .cons a (.cons b (.cons c t)), h => by simp at h; omega
theorem ratD_no1 {d e : PyData} (ix : isI d = false) : ratD (.tuple [d, e]) = false := by
  unfold ratD
  split
  · rename_i a b z
    cases z
    rw [ix, Bool.false_and, Bool.false_and, Bool.false_and]
  · rfl
theorem ratD_no2 {d e : PyData} (ix : isI e = false) : ratD (.tuple [d, e]) = false := by
  unfold ratD
  split
  · rename_i a b z
    cases z
    rw [ix, Bool.and_false, Bool.false_and, Bool.false_and]
  · rfl
theorem isI_int {d : PyData} (h : isI d = true) : ∃ i, d = .int i := by
  cases d <;> simp [isI] at h
  exact ⟨_, rfl⟩
theorem ratD_nt {d : PyData} (h : tupD d = false) : ratD d = false := by
  cases d <;> first | rfl | (simp [tupD] at h)
theorem ok__law_is_ratio (T : Txt K mg A) : FnOk P w K mg base CX0 2 A.a__law_is_ratio A.d__law_is_ratio ["_law_value"] (sp_is_ratio K) := by
  have G__law_is_short : FnOk P w K mg base CX0 1 A.a__law_is_short A.d__law_is_short ["_law_value"] (sp_is_integer K) := ok__law_is_short T
  have G__law_divisor : FnOk P w K mg base CX0 1 A.a__law_divisor A.d__law_divisor ["_law_numbers"] (sp_divisor_of K) := ok__law_divisor T
  refine T.f__law_is_ratio.ok sc__law_is_ratio (fun vs H Q E h => ?_) (fun cdv B out t H vs Q E hr h => ?_)
  · obtain ⟨v, d, rfl, _⟩ := h
    rfl
  · obtain ⟨v, d, rfl, j, q⟩ := h
    refine ⟨_, (pss_cons (ps_if (PW.pt (pw_or (pt_not (pt_val (pe_callB call_isi (by rfl) T.n_isinstance (by decide +kernel) (pa_cons (pv 0) (pa_cons (pe_bltn (v := .ty "tuple") (by rfl) T.n_tuple (by decide +kernel) rfl) pa_nil))))) (pw_or (pt_cmpR op_ne (pe_callB call_len_seq (by rfl) T.n_len (by decide +kernel) (pa_cons (pv 0) pa_nil)) pe_int (nomark _)) (pw_or (pt_not (pt_val (pe_call G__law_is_short (hr.mono (by decide)) (by rfl) T.g__law_is_short T.f__law_is_short.kp (b__law_is_short T) .nil pass0 (pa_cons (pe_ix ix_tup (pv 0) pe_int (fun _ _ => rfl)) pa_nil)))) (pw_or1 (pt_not (pt_val (pe_call G__law_is_short (hr.mono (by decide)) (by rfl) T.g__law_is_short T.f__law_is_short.kp (b__law_is_short T) .nil pass0 (pa_cons (pe_ix ix_tup (pv 0) pe_int (fun _ _ => rfl)) pa_nil))))))))) (pss_one (ps_ret pe_bl)) pss_nil)
      (pss_one (ps_ret (pe_and (pe_cmpR op_gt (pe_ix ix_tup (pv 0) pe_int (fun _ _ => rfl)) pe_int (nomark _)) (pe_one (pe_cmpR op_eq (pe_call G__law_divisor (hr.mono (by decide)) (by rfl) T.g__law_divisor T.f__law_divisor.kp (b__law_divisor T) .nil pass0 (pa_cons (pv 0) pa_nil)) pe_int (nomark _))))))), ?_⟩
    have q' := q H (Same.refl _)
    refine ⟨_, rfl, _, _, _, _, _, rfl, .ty "tuple", j.ty, kit_ty (kit_tuple d), ⟨_, rfl, ?_⟩⟩
    cases d with
    | tuple ds =>
      cases j with
      | tup hs ha =>
        rename_i p xs
        have hl := ha.length
        refine iteF ?_
        refine ⟨_, rfl, p, xs, rfl, Or.inr hs, rfl, _, rfl, ?_⟩
        by_cases c : (xs.length : Int) = 2
        · rw [c]
          refine iteF ?_
          obtain ⟨x, y, d, e, hx2, hd2, jx, jy⟩ := two_of ha c
          subst hx2
          subst hd2
          · refine ⟨_, rfl, p, _, 0, _, rfl, rfl, hs, rfl, x, d, rfl, jx, _, rfl, ?_⟩
            cases ix : isI d with
            | false =>
              have er : ratD (.tuple [d, e]) = false := ratD_no1 ix
              rw [er] at q'
              exact iteT q'
            | true =>
              refine iteF ⟨_, rfl, p, _, 1, _, rfl, rfl, hs, rfl, y, e, rfl, jy, _, rfl, ?_⟩
              cases iy : isI e with
              | false =>
                have er : ratD (.tuple [d, e]) = false := ratD_no2 iy
                rw [er] at q'
                exact iteT q'
              | true =>
                refine iteF ?_
                obtain ⟨a, rfl⟩ := isI_int ix
                obtain ⟨b, rfl⟩ := isI_int iy
                cases jx
                cases jy
                have er : ratD (.tuple [.int a, .int b]) = (decide (0 < b) && decide (gcdL [a, b] = 1)) := by
                  show (isI (.int a) && isI (.int b) && _ && _) = _
                  rw [ix, iy]
                  rfl
                rw [er] at q'
                refine ⟨_, rfl, p, _, 1, _, rfl, rfl, hs, rfl, _, _, rfl, rfl, _, rfl, ?_⟩
                by_cases c : 0 < b
                · refine if_pos_of (decide_eq_true c) ?_
                  rw [decide_eq_true c, Bool.true_and] at q'
                  refine ⟨_, rfl, p, [a, b], rfl, hs, rfl, ?_⟩
                  have ee : decide (V.int (gcdL [a, b]) = V.int 1) = decide (gcdL [a, b] = 1) := by
                    by_cases g : gcdL [a, b] = 1
                    · rw [g]; rfl
                    · rw [decide_eq_false g, decide_eq_false (fun z => g (V.int.inj z))]
                  rw [ee]
                  exact q'
                · refine if_neg_of (decide_eq_false c) ?_
                  rw [decide_eq_false c, Bool.false_and] at q'
                  exact q'
        · rw [decide_eq_false (fun z => c (V.int.inj z))]
          rw [ratD_len (by rw [← hl]; exact c)] at q'
          exact iteT q'
    | _ =>
      rw [ratD_nt rfl] at q'
      exact iteT q'
end
end K01

set_option maxHeartbeats 400000
namespace K01
open PySem PySem.Spec PyProof.Rows L2 My M01
section
variable {P : Program} {w : World} {K : PySem.W.Frag} {mg : Str → Option Value} {base : Heap} {A : Adr}
/-- a drawn ratio -/
structure Drawn (H : Hp) (p : Addr) (a c : Int) : Prop where
  two : Two H p (a, c)
  top : -(10 ^ 20) ≤ a ∧ a ≤ 10 ^ 20
  bot : 0 < c ∧ c ≤ 10 ^ 20
  gcd : gcdL [a, c] = 1
def sp_ratio (K : PySem.W.Frag) : Sp := fun vs H Q _ => ∃ (b : Addr), vs = [.ref b] ∧ Bag H b ∧ ∀ p a c H', But b H H' → Bag H' b → H p = none → Drawn H' p a c → Q (.ref p) H'
theorem But.free {b : Addr} {H H' : Hp} (e : But b H H') (bag : Bag H b) {p : Addr} (n : H' p = none) (bag' : Bag H' b) : H p = none := by
  cases h : H p with
  | none => rfl
  | some o =>
    by_cases hp : p = b
    · subst hp
      obtain ⟨x, y, z, hb, _⟩ := bag'
      rw [hb] at n
      cases n
    · rw [e p o h hp] at n
      cases n
theorem ok__law_ratio (T : Txt K mg A) : FnOk P w K mg base CX0 3 A.a__law_ratio A.d__law_ratio ["_law_bag_here"] (sp_ratio K) := by
  have G__law_grab : FnOk P w K mg base CX0 1 A.a__law_grab A.d__law_grab ["_law_bag_here", "_law_total"] sp_grab := ok__law_grab T
  have G__law_one_of : FnOk P w K mg base CX0 2 A.a__law_one_of A.d__law_one_of ["_law_bag_here", "_law_items"] (sp_one_of K) := ok__law_one_of T
  have G__law_whole : FnOk P w K mg base CX0 2 A.a__law_whole A.d__law_whole ["_law_bag_here", "_law_high"] sp_whole := ok__law_whole T
  have G__law_divisor : FnOk P w K mg base CX0 1 A.a__law_divisor A.d__law_divisor ["_law_numbers"] (sp_divisor_of K) := ok__law_divisor T
  refine T.f__law_ratio.ok sc__law_ratio (fun vs H Q E h => ?_) (fun cdv B out t H vs Q E hr h => ?_)
  · obtain ⟨b, rfl, _⟩ := h
    rfl
  · obtain ⟨b, rfl, bag, q⟩ := h
    refine ⟨_, (pss_cons (ps_set (i := 1) sc__law_ratio.nd rfl (Or.inl rfl) (pe_call G__law_one_of (hr.mono (by decide)) (by rfl) T.g__law_one_of T.f__law_one_of.kp (b__law_one_of T) .nil pass0 (pa_cons (pv 0) (pa_cons (pe_lst (pa_cons pe_int (pa_cons pe_int (pa_cons pe_int (pa_cons (pe_op op_pow pe_int pe_int) pa_nil))))) pa_nil))))
      (pss_cons (ps_par (i := 2) (j := 3) (by rfl) sc__law_ratio.nd rfl rfl (by decide) rfl rfl (pa_cons (pe_call G__law_whole (hr.mono (by decide)) (by rfl) T.g__law_whole T.f__law_whole.kp (b__law_whole T) .nil pass0 (pa_cons (pv 0) (pa_cons (pv 1) pa_nil))) (pa_cons (pe_op op_add pe_int (pe_call G__law_grab (hr.mono (by decide)) (by rfl) T.g__law_grab T.f__law_grab.kp (b__law_grab T) .nil pass0 (pa_cons (pv 0) (pa_cons (pv 1) pa_nil)))) pa_nil)) (by rfl))
      (pss_cons (ps_set (i := 4) sc__law_ratio.nd rfl (Or.inl rfl) (pe_call G__law_divisor (hr.mono (by decide)) (by rfl) T.g__law_divisor T.f__law_divisor.kp (b__law_divisor T) .nil pass0 (pa_cons (pe_tup (pa_cons (pv 2) (pa_cons (pv 3) pa_nil))) pa_nil)))
      (pss_one (ps_ret (pe_tup (pa_cons (pe_op op_fdivA (pv 2) (pv 4)) (pa_cons (pe_op op_fdivA (pv 3) (pv 4)) pa_nil)))))))), ?_⟩
    refine ⟨_, rfl, _, _, rfl, rfl, ⟨by decide, by decide, by decide⟩, (by show 4 ≤ sizeLine; decide), fun p0 hp0 => ?_⟩
    refine ⟨b, p0, _, rfl, bag.upd hp0, bag.ne hp0, Evl.sq_of upd_same, by simp, by simp, fun v H1 hv e1 b1 => ?_⟩
    obtain ⟨n, rfl, n0, n1⟩ : ∃ n : Int, v = .int n ∧ 1 ≤ n ∧ n ≤ 10 ^ 20 := by
      simp only [List.mem_cons, List.not_mem_nil, or_false] at hv
      rcases hv with h | h | h | h <;> subst h <;> exact ⟨_, rfl, by decide +kernel, by decide +kernel⟩
    have nb : n.natAbs < 2 ^ 200 := by
      have e : (10 : Int) ^ 20 < 2 ^ 200 := by decide +kernel
      have e2 : ((2 ^ 200 : Nat) : Int) = (2 : Int) ^ 200 := by decide +kernel
      generalize (10 : Int) ^ 20 = z at *
      generalize (2 : Int) ^ 200 = y at *
      generalize (2 : Nat) ^ 200 = y' at *
      omega
    refine ⟨_, rfl, _, rfl, b, n, rfl, b1, by omega, nb, fun t H2 t0 t1 e2 b2 => ?_⟩
    refine ⟨_, rfl, _, rfl, b, n, rfl, b2, by omega, log_big nb (by decide) (by decide), fun g H3 g0 g1 e3 b3 => ⟨_, _, rfl, rfl, _, _, rfl, ?_⟩⟩
    have hb : (1 + g) ≠ 0 := by omega
    refine ⟨_, rfl, _, rfl, (by show 2 ≤ sizeLine; decide), fun p1 hp1 => ⟨p1, [t, 1 + g], rfl, Or.inl (Or.inl upd_same), ?_⟩⟩
    have es : shareOf t (1 + g) = gcdL [t, 1 + g] := if_neg (by omega)
    have sn := share_ne (t := t) hb
    have sl : (shareOf t (1 + g)).natAbs.log2 < 9000 := by
      have h1 := share_le (t := t) hb
      exact log_big (k := 200) (by omega) (by decide) (by decide)
    rw [es] at sn sl
    refine ⟨_, rfl, _, rfl, _, _, rfl, rfl, ⟨sn, sl⟩, _, rfl, _, rfl, _, _, rfl, rfl, ⟨sn, sl⟩, (by show 2 ≤ sizeLine; decide), fun p2 hp2 => ?_⟩
    have e4 : But b H (upd (upd H3 p1 (.tup [.int t, .int (1 + g)])) p2 (.tup [.int (t.fdiv (gcdL [t, 1 + g])), .int ((1 + g).fdiv (gcdL [t, 1 + g]))])) :=
      (((But.of (same_new hp0)).trans e1).trans (e2.trans e3)).trans (But.of ((same_new hp1).trans (same_new hp2)))
    have b4 : Bag (upd (upd H3 p1 (.tup [.int t, .int (1 + g)])) p2 (.tup [.int (t.fdiv (gcdL [t, 1 + g])), .int ((1 + g).fdiv (gcdL [t, 1 + g]))])) b := (b3.upd hp1).upd hp2
    have hpn : H p2 = none := by
      have h3 : H3 p2 = none := (same_new hp1).free hp2
      have h0 : (upd H p0 (.lst [.int 3, .int 12, .int 1000, .int (10 ^ (20 : Int).toNat)])) p2 = none := But.free (e1.trans (e2.trans e3)) (bag.upd hp0) h3 b3
      exact (same_new hp0).free h0
    have lt := low_le_t t (1 + g) hb
    have lb := low_le_b t (1 + g) hb
    have lp := low_pos (t := t) hb
    refine q p2 (low t (1 + g)).1 (low t (1 + g)).2 _ e4 b4 hpn ⟨?_, ?_, ?_, ?_⟩
    · show upd _ p2 _ p2 = _
      rw [upd_same]
      unfold low
      rw [es]
    · generalize (10 : Int) ^ 20 = z at *
      omega
    · generalize (10 : Int) ^ 20 = z at *
      omega
    · rw [gcdL_two, low_gcd hb]
      rfl
def sp_lowered_pair : Sp := fun vs H Q _ => ∃ t b, vs = [.int t, .int b] ∧ b ≠ 0 ∧ b.natAbs < 2 ^ 8000 ∧ ∀ p H', Same H H' → H p = none → Two H' p (low t b) → Q (.ref p) H'
theorem ok__law_lowered_pair (T : Txt K mg A) : FnOk P w K mg base CX0 2 A.a__law_lowered_pair A.d__law_lowered_pair ["_law_top", "_law_bottom"] sp_lowered_pair := by
  have G__law_divisor : FnOk P w K mg base CX0 1 A.a__law_divisor A.d__law_divisor ["_law_numbers"] (sp_divisor_of K) := ok__law_divisor T
  refine T.f__law_lowered_pair.ok sc__law_lowered_pair (fun vs H Q E h => ?_) (fun cdv B out s H vs Q E hr h => ?_)
  · obtain ⟨t, b, rfl, _⟩ := h
    rfl
  · obtain ⟨t, b, rfl, hb, hz, q⟩ := h
    refine ⟨_, (pss_cons (ps_set (i := 2) sc__law_lowered_pair.nd rfl (Or.inl rfl) (pe_op op_mulW (pe_call G__law_divisor (hr.mono (by decide)) (by rfl) T.g__law_divisor T.f__law_divisor.kp (b__law_divisor T) .nil pass0 (pa_cons (pe_tup (pa_cons (pv 0) (pa_cons (pv 1) pa_nil))) pa_nil)) (pe_ifExp (pt_cmpR op_gt (pv 1) pe_int (nomark _)) pe_int (pe_un un_neg pe_int))))
      (pss_one (ps_ret (pe_tup (pa_cons (pe_op op_fdivA (pv 0) (pv 2)) (pa_cons (pe_op op_fdivA (pv 1) (pv 2)) pa_nil)))))), ?_⟩
    refine ⟨_, rfl, _, rfl, (by show 2 ≤ sizeLine; decide), fun p hp => ⟨p, [t, b], rfl, Or.inl (Or.inl upd_same), ?_⟩⟩
    have sn := share_ne (t := t) hb
    have s2 := share_le (t := t) hb
    have sl : (shareOf t b).natAbs.log2 < 9000 := log_big (k := 8000) (by omega) (by decide) (by decide)
    have gl : (gcdL [t, b]).natAbs < 2 ^ 8000 := by
      rw [gcdL_two, ← share_abs, Int.natAbs_natCast]
      omega
    have mu : ∀ z : Int, z.natAbs < 2 ^ 2 → CMulW (gcdL [t, b]) z := fun z h => wide_mul gl h (by decide) (by decide) (by decide)
    refine ⟨_, rfl, _, _, rfl, rfl, _, rfl, ?_⟩
    refine ite2 (fun c => ?_) (fun c => ?_)
    · have es : shareOf t b = gcdL [t, b] * 1 := by
        have c' : 0 < b := of_decide_eq_true c
        rw [Int.mul_one]
        exact if_neg (by omega)
      rw [es] at sn sl
      refine ⟨_, _, rfl, rfl, mu 1 (by decide), ?_⟩
      refine ⟨_, rfl, _, rfl, _, _, rfl, rfl, ⟨sn, sl⟩, _, rfl, _, rfl, _, _, rfl, rfl, ⟨sn, sl⟩, (by show 2 ≤ sizeLine; decide), fun p2 hp2 => ?_⟩
      refine q p2 _ ((same_new hp).trans (same_new hp2)) ((same_new hp).free hp2) ?_
      show upd _ p2 _ p2 = _
      rw [upd_same]
      unfold low
      rw [es]
    · have es : shareOf t b = gcdL [t, b] * -1 := by
        have c' : ¬ 0 < b := fun z => c (decide_eq_true z)
        unfold shareOf
        rw [if_pos (by omega)]
        omega
      rw [es] at sn sl
      refine ⟨_, rfl, _, _, rfl, rfl, mu (-1) (by decide), ?_⟩
      refine ⟨_, rfl, _, rfl, _, _, rfl, rfl, ⟨sn, sl⟩, _, rfl, _, rfl, _, _, rfl, rfl, ⟨sn, sl⟩, (by show 2 ≤ sizeLine; decide), fun p2 hp2 => ?_⟩
      refine q p2 _ ((same_new hp).trans (same_new hp2)) ((same_new hp).free hp2) ?_
      show upd _ p2 _ p2 = _
      rw [upd_same]
      unfold low
      rw [es]
end
end K01

set_option maxHeartbeats 400000
namespace K01
open PySem PySem.Spec PyProof.Rows L2 My M01
local macro_rules | `(tactic| walk_at "mk") => `(tactic| (repeat' first
  | exact mxa_nil | exact mx_bool | exact mx_non | exact mx_str | exact mx_dct | exact mi_int | exact mi_var rfl
  | exact mi_opk ⟨by decide, by decide, by decide⟩
  | apply mxa_cons | apply mx_tup | apply mx_lst | apply mi_op0 | apply mi_neg
  | (refine mi_opc ?_ (fun _ => Or.inl ⟨by decide, by decide⟩))
  | apply MkI.x
  | decide))
section
variable {P : Program} {w : World} {K : PySem.W.Frag} {mg : Str → Option Value} {base : Heap} {A : Adr}
theorem two_list {H : Hp} {p : Addr} {x y : Bool} : Dp K (upd H p (.lst [.bl x, .bl y])) (.ref p) (.list [.bool x, .bool y]) :=
  .lst (Evl.sq_of upd_same) (.cons (.bl x) (.cons (.bl y) .nil))
theorem shown_two (x y : Bool) : (PyData.list [.bool x, .bool y]).shown.length ≤ sizeLine := by
  cases x <;> cases y <;> exact Nat.le_trans (by decide +kernel : _ ≤ 100) (by decide)
def sp_true : Sp := fun vs H Q _ => ∃ (b : Addr), vs = [.ref b] ∧ Bag H b ∧ ∀ H', But b H H' → Bag H' b → Q (.bl true) H'
theorem ok__law_judged (T : Txt K mg A) : FnG P w K mg base CX0 6 A.a__law_judged A.d__law_judged ["_law_bag_here"] sp_true := by
  have G__law_ratio : FnOk P w K mg base CX0 3 A.a__law_ratio A.d__law_ratio ["_law_bag_here"] (sp_ratio K) := ok__law_ratio T
  have G_is_integer : FnOk P w K mg base CX0 2 A.a_is_integer A.d_is_integer ["value"] (sp_is_integer K) := ok_is_integer T
  have G_is_ratio : FnOk P w K mg base CX0 4 A.a_is_ratio A.d_is_ratio ["value"] (sp_is_ratio K) := ok_is_ratio T
  have G__law_is_short : FnOk P w K mg base CX0 1 A.a__law_is_short A.d__law_is_short ["_law_value"] (sp_is_integer K) := ok__law_is_short T
  have G__law_is_ratio : FnOk P w K mg base CX0 2 A.a__law_is_ratio A.d__law_is_ratio ["_law_value"] (sp_is_ratio K) := ok__law_is_ratio T
  refine fun_g T.f__law_judged sc__law_judged (fun vs H Q E h => ?_) (fun cdv B out t H vs Q E hr hg h => ?_)
  · obtain ⟨b, rfl, _⟩ := h
    rfl
  · obtain ⟨b, rfl, bag, q⟩ := h
    refine ⟨_, (pss_cons (ps_asg (pe_call G__law_ratio (hr.mono (by decide)) (by rfl) T.g__law_ratio T.f__law_ratio.kp (b__law_ratio T) .nil pass0 (pa_cons (pv 0) pa_nil)) (pg_tup (by rfl) (pgs_cons (pg_name (i := 1) sc__law_judged.nd rfl (Or.inl rfl)) (pgs_cons (pg_name (i := 2) sc__law_judged.nd rfl (Or.inl rfl)) pgs_nil))))
      (pss_cons (ps_set (i := 3) sc__law_judged.nd rfl (Or.inl rfl) (pe_lst (pa_cons (pv 1) (pa_cons (pe_tup (pa_cons (pv 1) (pa_cons (pv 2) pa_nil))) (pa_cons (pe_tup (pa_cons (pv 2) (pa_cons (pv 1) pa_nil))) (pa_cons (pe_tup (pa_cons (pe_op op_mul pe_int (pv 1)) (pa_cons (pe_op op_mul pe_int (pv 2)) pa_nil))) (pa_cons (pe_tup (pa_cons (pe_un un_neg (pv 1)) (pa_cons (pe_un un_neg (pv 2)) pa_nil))) (pa_cons (pe_lst (pa_cons (pv 1) (pa_cons (pv 2) pa_nil))) (pa_cons (pe_tup (pa_cons (pv 1) pa_nil)) (pa_cons (pe_tup (pa_cons (pv 1) (pa_cons (pv 2) (pa_cons pe_int pa_nil)))) pa_nil))))))))))
      (pss_cons (ps_set (i := 3) sc__law_judged.nd rfl (Or.inl rfl) (pe_op op_cat (pv 3) (pe_lst (pa_cons pe_bl (pa_cons pe_bl (pa_cons pe_non (pa_cons pe_str (pa_cons (pe_tup (pa_cons pe_bl (pa_cons pe_int pa_nil))) (pa_cons (pe_tup (pa_cons pe_int (pa_cons pe_bl pa_nil))) (pa_cons (pe_tup (pa_cons pe_int (pa_cons pe_int pa_nil))) (pa_cons (pe_tup (pa_cons pe_int (pa_cons pe_int pa_nil))) (pa_cons (pe_tup (pa_cons pe_int (pa_cons pe_int pa_nil))) (pa_cons (pe_tup (pa_cons pe_int (pa_cons pe_int pa_nil))) (pa_cons pe_dnewK (pa_cons (pe_tup pa_nil) (pa_cons (pe_op op_pow pe_int pe_int) (pa_cons (pe_op op_sub (pe_op op_pow pe_int pe_int) pe_int) pa_nil)))))))))))))))))
      (pss_cons (ps_set (i := 3) sc__law_judged.nd rfl (Or.inl rfl) (pe_op op_cat (pv 3) (pe_lst (pa_cons (pe_op op_sub pe_int (pe_op op_pow pe_int pe_int)) (pa_cons (pe_un un_neg (pe_op op_pow pe_int pe_int)) (pa_cons (pe_tup (pa_cons (pe_op op_pow pe_int pe_int) (pa_cons pe_int pa_nil))) (pa_cons (pe_tup (pa_cons pe_int (pa_cons (pe_op op_pow pe_int pe_int) pa_nil))) (pa_cons (pe_tup (pa_cons (pe_op op_sub (pe_op op_pow pe_int pe_int) pe_int) (pa_cons pe_int pa_nil))) (pa_cons (pe_tup (pa_cons (pe_tup (pa_cons pe_int (pa_cons pe_int pa_nil))) (pa_cons pe_int pa_nil))) (pa_cons (pe_tup (pa_cons pe_str (pa_cons pe_int pa_nil))) (pa_cons (pe_tup (pa_cons pe_non (pa_cons pe_int pa_nil))) pa_nil)))))))))))
      (pss_cons (ps_for PassesOwn.never rfl (pi_list (pv 3)) (pg_name (i := 4) sc__law_judged.nd rfl (Or.inl rfl)) (pss_one (ps_if (pt_cmpR op_ne (pe_callB (My.call_reprD hr.units hg) (by rfl) T.n_repr (by decide +kernel) (pa_cons (pe_lst (pa_cons (pe_call G_is_integer (hr.mono (by decide)) (by rfl) T.g_is_integer T.f_is_integer.kp (b_is_integer T) .nil pass0 (pa_cons (pv 4) pa_nil)) (pa_cons (pe_call G_is_ratio (hr.mono (by decide)) (by rfl) T.g_is_ratio T.f_is_ratio.kp (b_is_ratio T) .nil pass0 (pa_cons (pv 4) pa_nil)) pa_nil))) pa_nil)) (pe_callB (My.call_reprD hr.units hg) (by rfl) T.n_repr (by decide +kernel) (pa_cons (pe_lst (pa_cons (pe_call G__law_is_short (hr.mono (by decide)) (by rfl) T.g__law_is_short T.f__law_is_short.kp (b__law_is_short T) .nil pass0 (pa_cons (pv 4) pa_nil)) (pa_cons (pe_call G__law_is_ratio (hr.mono (by decide)) (by rfl) T.g__law_is_ratio T.f__law_is_ratio.kp (b__law_is_ratio T) .nil pass0 (pa_cons (pv 4) pa_nil)) pa_nil))) pa_nil)) (nomark _)) (pss_one (ps_ret pe_bl)) pss_nil)))
      (pss_one (ps_ret pe_bl))))))), ?_⟩
    refine ⟨_, rfl, b, rfl, bag, fun p a c H1 e1 b1 hp dr => ?_⟩
    refine ⟨p, _, rfl, Or.inl (Or.inl dr.two), rfl, ?_⟩
    refine ⟨_, _, rfl, _, _, rfl, rfl, ?_⟩
    dsimp only [tSeq]
    refine st_mkx (K := K) (n := 8) (mxl_lst ?m1 (by decide)) ?k1
    case m1 => walk_at "mk"
    case k1 =>
      intro p1 vs1 ds1 H2 e2 _ hp1 j1 l1
      dsimp only [tSeq]
      refine st_mkx (K := K) (mxl_cat (n := 14) rfl hp1 j1 (mxl_lst ?m2 (by decide)) (by omega)) ?k2
      case m2 => walk_at "mk"
      case k2 =>
        intro p2 vs2 ds2 H3 e3 _ hp2 j2 l2
        dsimp only [tSeq]
        refine st_mkx (K := K) (mxl_cat (n := 8) rfl hp2 j2 (mxl_lst ?m3 (by decide)) (by omega)) ?k3
        case m3 => walk_at "mk"
        case k3 =>
          intro p3 vs3 ds3 H4 e4 n3 hp3 j3 l3
          dsimp only [tSeq]
          have n31 : H1 p3 = none := e2.free (e3.free n3)
          have e14 : Same H1 H4 := e2.trans (e3.trans e4)
          refine ⟨_, rfl, p3, rfl, ⟨_, Evl.sq_of hp3⟩, for_list (K := K) (a := p3) (xs := vs3) (fun i σ H' => Same H4 H' ∧ ∃ v : Option V, σ = [some (.ref b), some (.int a), some (.int c), some (.ref p3), v])
            ⟨Same.refl _, none, rfl⟩ (fun i σ H' _ h => Evl.sq_of (h.1 _ _ hp3)) ?_ ?_⟩
          · rintro i x σ H' hx ⟨e5, v, rfl⟩
            obtain ⟨d, _, jd⟩ := j3.get hx
            have jd' : Jd K H' x d := Jd.mono e5 _ _ jd
            refine ⟨_, rfl, x, d, rfl, jd', _, rfl, x, d, rfl, jd', fun H6 e6 => ⟨(by show 2 ≤ sizeLine; decide), fun p6 n6 => ?_⟩⟩
            refine ⟨_, _, rfl, two_list (x := isI d) (y := ratD d), rfl, rfl, by simp [PyData.depth, PyData.depthAll], shown_two _ _, (fun _ z => by cases z), ?_⟩
            have e6' : Same H' (upd H6 p6 (.lst [.bl (isI d), .bl (ratD d)])) := e6.trans (same_new n6)
            refine ⟨_, rfl, x, d, rfl, Jd.mono e6' _ _ jd', _, rfl, x, d, rfl, Jd.mono e6' _ _ jd', fun H7 e7 => ⟨(by show 2 ≤ sizeLine; decide), fun p7 n7 => ?_⟩⟩
            refine ⟨_, _, rfl, two_list (x := isI d) (y := ratD d), rfl, rfl, by simp [PyData.depth, PyData.depthAll], shown_two _ _, (fun _ z => by cases z), ?_⟩
            refine ⟨rfl, _, rfl, iteNS rfl ?_⟩
            exact ⟨(e5.trans e6').trans (e7.trans (same_new n7)), some x, rfl⟩
          · rintro σ H' ⟨e5, v, rfl⟩
            exact q H' ((e1.trans (But.of e14)).trans (But.of e5)) ((b1.same e14).same e5)
end
end K01

set_option maxHeartbeats 1000000
namespace K01
open PySem PySem.Spec PyProof.Rows L2 My M01
section
variable {P : Program} {w : World} {K : PySem.W.Frag} {mg : Str → Option Value} {base : Heap} {A : Adr}
theorem isI_of {n : Int} (h : n.natAbs < 10 ^ 60) : isI (.int n) = true := by
  have e : ((10 ^ 60 : Nat) : Int) = (10 : Int) ^ 60 := by decide +kernel
  show (decide _ && decide _) = true
  rw [Bool.and_eq_true, decide_eq_true_eq, decide_eq_true_eq]
  generalize (10 : Int) ^ 60 = z at *
  generalize (10 : Nat) ^ 60 = y at *
  omega
theorem prod_le {a d : Int} (ha : a.natAbs ≤ 10 ^ 20) (hd : d.natAbs ≤ 10 ^ 20) : (a * d).natAbs ≤ 10 ^ 40 := by
  rw [Int.natAbs_mul]
  exact Nat.le_trans (Nat.mul_le_mul ha hd) (by decide +kernel)
theorem rat_low {t b : Int} (hb : b ≠ 0) (ht : t.natAbs < 10 ^ 60) (hb2 : b.natAbs < 10 ^ 60) : ratD (.tuple [.int (low t b).1, .int (low t b).2]) = true := by
  refine ratD_iff.mpr ⟨isI_of (Nat.lt_of_le_of_lt (low_le_t t b hb) ht), isI_of (Nat.lt_of_le_of_lt (low_le_b t b hb) hb2), low_pos hb, ?_⟩
  rw [gcdL_two, low_gcd hb]
  rfl
structure Small (a c : Int) : Prop where
  top : a.natAbs ≤ 10 ^ 20
  bot : c.natAbs ≤ 10 ^ 20
  pos : 0 < c
  gcd : Nat.gcd a.natAbs c.natAbs = 1
theorem Drawn.small {H : Hp} {p : Addr} {a c : Int} (d : Drawn H p a c) : Small a c := by
  have e : ((10 ^ 20 : Nat) : Int) = (10 : Int) ^ 20 := by decide +kernel
  have h1 := d.top
  have h2 := d.bot
  refine ⟨?_, ?_, h2.1, ?_⟩
  · generalize (10 : Int) ^ 20 = z at *
    generalize (10 : Nat) ^ 20 = y at *
    omega
  · generalize (10 : Int) ^ 20 = z at *
    generalize (10 : Nat) ^ 20 = y at *
    omega
  · have h3 := d.gcd
    rw [gcdL_two] at h3
    omega
theorem Small.isA {a c : Int} (s : Small a c) : isI (.int a) = true := isI_of (Nat.lt_of_le_of_lt s.top (by decide +kernel))
theorem Small.isC {a c : Int} (s : Small a c) : isI (.int c) = true := isI_of (Nat.lt_of_le_of_lt s.bot (by decide +kernel))
theorem Small.rat {a c : Int} (s : Small a c) : ratD (.tuple [.int a, .int c]) = true := by
  refine ratD_iff.mpr ⟨s.isA, s.isC, s.pos, ?_⟩
  rw [gcdL_two, s.gcd]
  rfl
theorem two_but {b p : Addr} {H H' : Hp} {r : Int × Int} (e : But b H H') (bag : Bag H b) (h : Two H p r) : Two H' p r := by
  obtain ⟨x, y, z, hb, _⟩ := bag
  exact e _ _ h (ne_of h hb (by intro q; cases q))
theorem two_rat {p : Addr} {H : Hp} {a c : Int} (h : Two H p (a, c)) (r : ratD (.tuple [.int a, .int c]) = true) : Rat K H p a c := ⟨Or.inl (Or.inl h), r⟩
theorem two_dp {p : Addr} {H : Hp} {r : Int × Int} (h : Two H p r) : Dp K H (.ref p) (.tuple [.int r.1, .int r.2]) :=
  .tup (Or.inl (Or.inl h)) (.cons (.int _) (.cons (.int _) .nil))
theorem two_same {p : Addr} {H H' : Hp} {r : Int × Int} (e : Same H H') (h : Two H p r) : Two H' p r := e _ _ h
theorem shown_small {i : Int} (h : i = -1 ∨ i = 0 ∨ i = 1) : (PyData.int i).shown.length ≤ sizeLine := by
  rcases h with h | h | h <;> subst h <;> exact Nat.le_trans (by decide +kernel : _ ≤ 100) (by decide)
theorem show_small {i : Int} (h : i = -1 ∨ i = 0 ∨ i = 1) : (PyData.int i).showable = true := by
  rcases h with h | h | h <;> subst h <;> decide +kernel
theorem dep_small {i : Int} (h : i = -1 ∨ i = 0 ∨ i = 1) : (PyData.int i).depth + 1 ≤ 64 := by
  rcases h with h | h | h <;> subst h <;> decide +kernel
theorem log_small1 {i : Int} (h : i = -1 ∨ i = 0 ∨ i = 1) : i.natAbs.log2 < 1920 := by
  rcases h with h | h | h <;> subst h <;> decide
theorem add_lt {x y : Int} (hx : x.natAbs ≤ 10 ^ 40) (hy : y.natAbs ≤ 10 ^ 40) : (x + y).natAbs < 10 ^ 60 ∧ (x - y).natAbs < 10 ^ 60 := by
  have : (10 : Nat) ^ 40 + 10 ^ 40 < 10 ^ 60 := by decide +kernel
  generalize (10 : Nat) ^ 60 = z at *
  generalize (10 : Nat) ^ 40 = y at *
  omega
theorem three_dp {H : Hp} {p r1 r2 r3 : Addr} {x y z : Int × Int} (hp : H p = some (.lst [.ref r1, .ref r2, .ref r3])) (h1 : Two H r1 x) (h2 : Two H r2 y) (h3 : Two H r3 z) :
    Dp K H (.ref p) (.list [.tuple [.int x.1, .int x.2], .tuple [.int y.1, .int y.2], .tuple [.int z.1, .int z.2]]) :=
  .lst (Evl.sq_of hp) (.cons (two_dp h1) (.cons (two_dp h2) (.cons (two_dp h3) .nil)))
theorem ite_copy {b : Bool} {D : Ends} {σ : St} {H : Hp} {i j : Nat} {v w : V} (h1 : σ[j]? = some (some v)) (hi : σ[i]? = some (some w))
    (hn : ∀ u, (u = v ∨ u = w) → D.nx (σ.set i (some u)) H) : if b = true then tAsg (tVar j) (gName i) D σ H else tNext D σ H := by
  cases b with
  | true => exact iteT ⟨v, h1, hn v (Or.inl rfl)⟩
  | false =>
    have h := hn w (Or.inr rfl)
    have e : σ.set i (some w) = σ := by
      apply List.ext_getElem?
      intro k
      by_cases hk : i = k
      · subst hk
        rw [List.getElem?_set_self (List.getElem?_eq_some_iff.mp hi).1, hi]
      · rw [List.getElem?_set_ne hk]
    rw [e] at h
    exact iteF h
theorem three_shaped {x y z : Int × Int} : SeqAt.shaped (.list [.tuple [.int x.1, .int x.2], .tuple [.int y.1, .int y.2], .tuple [.int z.1, .int z.2]]) = true := rfl
theorem eqv_three {x y z : Int × Int} : PyData.eqv (.list [.tuple [.int x.1, .int x.2], .tuple [.int y.1, .int y.2], .tuple [.int z.1, .int z.2]]) (.list [.tuple [.int x.1, .int x.2], .tuple [.int y.1, .int y.2], .tuple [.int z.1, .int z.2]]) = true :=
  SeqAt.eqv_refl_plain _ rfl
theorem eqv_two {x : Int × Int} : PyData.eqv (.tuple [.int x.1, .int x.2]) (.tuple [.int x.1, .int x.2]) = true := SeqAt.eqv_refl_plain _ rfl
theorem due_reads {tx ty : TE} {x y : Int} {σ : St} {H : Hp} {i : Nat} {D : Ends} (hx : ∀ Q' : VK, Q' (.int x) H → tx σ H Q') (hy : ∀ Q' : VK, Q' (.int y) H → ty σ H Q')
    (q : D.nx (σ.set i (some (.int (cmp x y)))) H) :
    tAsg (tIf (tTest (tOp rEq tx ty)) (tC (.int 0)) (tIf (tTest (tOp (rI0 fun i j => .bl (decide (j < i))) tx ty)) (tC (.int 1)) (tUn (rU fun i => .int (-i)) (tC (.int 1))))) (gName i) D σ H := by
  rw [cmp_cases] at q
  refine hx _ (hy _ ⟨rfl, _, rfl, ?_⟩)
  by_cases c : x = y
  · rw [if_pos c] at q
    refine if_pos_of (decide_eq_true (congrArg V.int c)) q
  · rw [if_neg c] at q
    refine if_neg_of (decide_eq_false (fun z => c (V.int.inj z))) ?_
    refine hx _ (hy _ ⟨_, _, rfl, rfl, _, rfl, ?_⟩)
    by_cases c2 : y < x
    · rw [if_pos c2] at q
      exact if_pos_of (decide_eq_true c2) q
    · rw [if_neg c2] at q
      exact if_neg_of (decide_eq_false c2) ⟨1, rfl, q⟩
theorem ok__law_reckoned (T : Txt K mg A) : FnG P w K mg base CX0 7 A.a__law_reckoned A.d__law_reckoned ["_law_bag_here"] sp_true := by
  have G__law_ratio : FnOk P w K mg base CX0 3 A.a__law_ratio A.d__law_ratio ["_law_bag_here"] (sp_ratio K) := ok__law_ratio T
  have G__law_grab : FnOk P w K mg base CX0 1 A.a__law_grab A.d__law_grab ["_law_bag_here", "_law_total"] sp_grab := ok__law_grab T
  have G__law_lowered_pair : FnOk P w K mg base CX0 2 A.a__law_lowered_pair A.d__law_lowered_pair ["_law_top", "_law_bottom"] sp_lowered_pair := ok__law_lowered_pair T
  have G_compare : FnOk P w K mg base CX0 6 A.a_compare A.d_compare ["one", "other"] (sp_compare K) := ok_compare T
  have G_plus : FnOk P w K mg base CX0 6 A.a_plus A.d_plus ["one", "other"] (sp_plus K) := ok_plus T
  have G_minus : FnOk P w K mg base CX0 6 A.a_minus A.d_minus ["one", "other"] (sp_minus K) := ok_minus T
  have G_times : FnOk P w K mg base CX0 6 A.a_times A.d_times ["one", "other"] (sp_times K) := ok_times T
  refine fun_g T.f__law_reckoned sc__law_reckoned (fun vs H Q E h => ?_) (fun cdv B out t H vs Q E hr hg h => ?_)
  · obtain ⟨b, rfl, _⟩ := h
    rfl
  · obtain ⟨b0, rfl, bag, q⟩ := h
    refine ⟨_, (pss_cons (ps_par (i := 1) (j := 2) (by rfl) sc__law_reckoned.nd rfl rfl (by decide) rfl rfl (pa_cons (pe_call G__law_ratio (hr.mono (by decide)) (by rfl) T.g__law_ratio T.f__law_ratio.kp (b__law_ratio T) .nil pass0 (pa_cons (pv 0) pa_nil)) (pa_cons (pe_call G__law_ratio (hr.mono (by decide)) (by rfl) T.g__law_ratio T.f__law_ratio.kp (b__law_ratio T) .nil pass0 (pa_cons (pv 0) pa_nil)) pa_nil)) (by rfl))
      (pss_cons (ps_if (pt_cmpR op_eq (pe_call G__law_grab (hr.mono (by decide)) (by rfl) T.g__law_grab T.f__law_grab.kp (b__law_grab T) .nil pass0 (pa_cons (pv 0) (pa_cons pe_int pa_nil))) pe_int (nomark _)) (pss_one (ps_set (i := 2) sc__law_reckoned.nd rfl (Or.inl rfl) (pv 1))) pss_nil)
      (pss_cons (ps_asg (pe_tup (pa_cons (pv 1) (pa_cons (pv 2) pa_nil))) (pg_tup (by rfl) (pgs_cons (pg_tup (by rfl) (pgs_cons (pg_name (i := 3) sc__law_reckoned.nd rfl (Or.inl rfl)) (pgs_cons (pg_name (i := 4) sc__law_reckoned.nd rfl (Or.inl rfl)) pgs_nil))) (pgs_cons (pg_tup (by rfl) (pgs_cons (pg_name (i := 5) sc__law_reckoned.nd rfl (Or.inl rfl)) (pgs_cons (pg_name (i := 6) sc__law_reckoned.nd rfl (Or.inl rfl)) pgs_nil))) pgs_nil))))
      (pss_cons (ps_set (i := 7) sc__law_reckoned.nd rfl (Or.inl rfl) (pe_ifExp (pt_cmpR op_eq (pe_op op_mulW (pv 3) (pv 6)) (pe_op op_mulW (pv 5) (pv 4)) (nomark _)) pe_int (pe_ifExp (pt_cmpR op_gt (pe_op op_mulW (pv 3) (pv 6)) (pe_op op_mulW (pv 5) (pv 4)) (nomark _)) pe_int (pe_un un_neg pe_int))))
      (pss_cons (ps_if (PW.pt (pw_or (pt_cmpR op_ne (pe_callB (My.call_reprD hr.units hg) (by rfl) T.n_repr (by decide +kernel) (pa_cons (pe_call G_compare (hr.mono (by decide)) (by rfl) T.g_compare T.f_compare.kp (b_compare T) .nil pass0 (pa_cons (pv 1) (pa_cons (pv 2) pa_nil))) pa_nil)) (pe_callB (My.call_reprD hr.units hg) (by rfl) T.n_repr (by decide +kernel) (pa_cons (pv 7) pa_nil)) (nomark _)) (pw_or1 (pt_cmpR op_ne (pe_call G_compare (hr.mono (by decide)) (by rfl) T.g_compare T.f_compare.kp (b_compare T) .nil pass0 (pa_cons (pv 2) (pa_cons (pv 1) pa_nil))) (pe_un un_neg (pv 7)) (nomark _))))) (pss_one (ps_ret pe_bl)) pss_nil)
      (pss_cons (ps_set (i := 8) sc__law_reckoned.nd rfl (Or.inl rfl) (pe_lst (pa_cons (pe_call G_plus (hr.mono (by decide)) (by rfl) T.g_plus T.f_plus.kp (b_plus T) .nil pass0 (pa_cons (pv 1) (pa_cons (pv 2) pa_nil))) (pa_cons (pe_call G_minus (hr.mono (by decide)) (by rfl) T.g_minus T.f_minus.kp (b_minus T) .nil pass0 (pa_cons (pv 1) (pa_cons (pv 2) pa_nil))) (pa_cons (pe_call G_times (hr.mono (by decide)) (by rfl) T.g_times T.f_times.kp (b_times T) .nil pass0 (pa_cons (pv 1) (pa_cons (pv 2) pa_nil))) pa_nil)))))
      (pss_cons (ps_if (pt_cmpR (op_neD hr.units) (pv 8) (pe_lst (pa_cons (pe_call G__law_lowered_pair (hr.mono (by decide)) (by rfl) T.g__law_lowered_pair T.f__law_lowered_pair.kp (b__law_lowered_pair T) .nil pass0 (pa_cons (pe_op op_add (pe_op op_mulW (pv 3) (pv 6)) (pe_op op_mulW (pv 5) (pv 4))) (pa_cons (pe_op op_mulW (pv 4) (pv 6)) pa_nil))) (pa_cons (pe_call G__law_lowered_pair (hr.mono (by decide)) (by rfl) T.g__law_lowered_pair T.f__law_lowered_pair.kp (b__law_lowered_pair T) .nil pass0 (pa_cons (pe_op op_sub (pe_op op_mulW (pv 3) (pv 6)) (pe_op op_mulW (pv 5) (pv 4))) (pa_cons (pe_op op_mulW (pv 4) (pv 6)) pa_nil))) (pa_cons (pe_call G__law_lowered_pair (hr.mono (by decide)) (by rfl) T.g__law_lowered_pair T.f__law_lowered_pair.kp (b__law_lowered_pair T) .nil pass0 (pa_cons (pe_op op_mulW (pv 3) (pv 5)) (pa_cons (pe_op op_mulW (pv 4) (pv 6)) pa_nil))) pa_nil)))) (nomark _)) (pss_one (ps_ret pe_bl)) pss_nil)
      (pss_one (ps_ret (pe_and (pe_cmpR (op_eqD hr.units) (pe_call G_plus (hr.mono (by decide)) (by rfl) T.g_plus T.f_plus.kp (b_plus T) .nil pass0 (pa_cons (pe_ix ix_list (pv 8) pe_int (fun _ _ => rfl)) (pa_cons (pv 2) pa_nil))) (pv 1) (nomark _)) (pe_and (pe_cmpR (op_eqD hr.units) (pe_call G_minus (hr.mono (by decide)) (by rfl) T.g_minus T.f_minus.kp (b_minus T) .nil pass0 (pa_cons (pe_ix ix_list (pv 8) pe_int (fun _ _ => rfl)) (pa_cons (pv 1) pa_nil))) (pv 2) (nomark _)) (pe_one (pe_cmpR op_eq (pe_call G_compare (hr.mono (by decide)) (by rfl) T.g_compare T.f_compare.kp (b_compare T) .nil pass0 (pa_cons (pe_ix ix_list (pv 8) pe_int (fun _ _ => rfl)) (pa_cons (pe_tup (pa_cons pe_int (pa_cons pe_int pa_nil))) pa_nil))) (pv 7) (nomark _)))))))))))))), ?_⟩
    refine ⟨_, rfl, b0, rfl, bag, fun p1 a b H1 e1 b1 hp1 dr1 => ?_⟩
    refine ⟨_, rfl, b0, rfl, b1, fun p2 c d H2 e2 b2 hp2 dr2 => ⟨_, _, rfl, ?_⟩⟩
    have t1 : Two H2 p1 (a, b) := two_but e2 b1 dr1.two
    have s1 := dr1.small
    refine ⟨_, rfl, b0, 4, rfl, b2, by decide, by decide, fun r H3 _ _ e3 b3 => ⟨rfl, _, rfl, ?_⟩⟩
    have e13 : But b0 H H3 := e1.trans (e2.trans e3)
    have u1 : Two H3 p1 (a, b) := two_but e3 b2 t1
    have u2 : Two H3 p2 (c, d) := two_but e3 b2 dr2.two
    have s2 := dr2.small
    refine ite_copy (v := .ref p1) (w := .ref p2) rfl rfl ?_
    intro u hu
    obtain ⟨p2, c, d, rfl, u2, s2⟩ : ∃ (p2 : Addr) (c d : Int), u = .ref p2 ∧ Two H3 p2 (c, d) ∧ Small c d := by
      rcases hu with h | h
      · exact ⟨p1, a, b, h, u1, s1⟩
      · exact ⟨p2, c, d, h, u2, s2⟩
    clear t1 e1 b1 hp1 dr1 e2 b2 hp2 dr2 e3
    refine ⟨_, rfl, _, rfl, (by show 2 ≤ sizeLine; decide), fun p3 n3 => ?_⟩
    have w1 := two_same (same_new (o := .tup [.ref p1, .ref p2]) n3) u1
    have w2 := two_same (same_new (o := .tup [.ref p1, .ref p2]) n3) u2
    have b4 : Bag (upd H3 p3 (.tup [.ref p1, .ref p2])) b0 := b3.upd n3
    have e14 : But b0 H (upd H3 p3 (.tup [.ref p1, .ref p2])) := e13.trans (But.of (same_new n3))
    have w3 : (upd H3 p3 (.tup [.ref p1, .ref p2])) p3 = some (.tup [.ref p1, .ref p2]) := upd_same
    generalize upd H3 p3 (HO.tup [V.ref p1, V.ref p2]) = H4 at *
    refine ⟨p3, [.ref p1, .ref p2], rfl, Or.inl (Or.inl w3), rfl, ?_⟩
    refine ⟨_, _, rfl, p1, _, rfl, Or.inl (Or.inl w1), rfl, ?_⟩
    refine ⟨_, _, rfl, _, _, rfl, rfl, ?_⟩
    refine ⟨_, _, rfl, p2, _, rfl, Or.inl (Or.inl w2), rfl, ?_⟩
    refine ⟨_, _, rfl, _, _, rfl, rfl, rfl, ?_⟩
    have mad : CMulW a d := mulw s1.isA s2.isC
    have mcb : CMulW c b := mulw s2.isA s1.isC
    dsimp only [tSeq]
    refine due_reads (x := a * d) (y := c * b) (fun Q' h => ⟨_, rfl, _, rfl, _, _, rfl, rfl, mad, h⟩) (fun Q' h => ⟨_, rfl, _, rfl, _, _, rfl, rfl, mcb, h⟩) ?_
    have r1 : Rat K H4 p1 a b := two_rat w1 s1.rat
    have r2 : Rat K H4 p2 c d := two_rat w2 s2.rat
    have dl := cmp_small (a * d) (c * b)
    have dsw := cmp_swap (a * d) (c * b)
    refine ⟨_, rfl, _, rfl, p1, p2, a, b, c, d, rfl, r1, r2, fun H5 e5 => ?_⟩
    generalize hdue : cmp (a * d) (c * b) = due at *
    refine ⟨_, .int due, rfl, .int due, show_small dl, rfl, dep_small dl, shown_small dl, (fun i h => by cases h; exact log_small1 dl), ?_⟩
    refine ⟨_, rfl, _, .int due, rfl, .int due, show_small dl, rfl, dep_small dl, shown_small dl, (fun i h => by cases h; exact log_small1 dl), ?_⟩
    refine ⟨rfl, _, rfl, iteNS rfl ?_⟩
    refine ⟨_, rfl, _, rfl, p2, p1, c, d, a, b, rfl, r2.same e5, r1.same e5, fun H6 e6 => ?_⟩
    refine ⟨_, rfl, _, rfl, rfl, _, rfl, ?_⟩
    rw [dsw]
    refine iteNS rfl ?_
    have e16 : But b0 H H6 := e14.trans (But.of (e5.trans e6))
    have b6 : Bag H6 b0 := (b4.same e5).same e6
    have r61 : Rat K H6 p1 a b := (r1.same e5).same e6
    have r62 : Rat K H6 p2 c d := (r2.same e5).same e6
    have t61 : Two H6 p1 (a, b) := two_same (e5.trans e6) w1
    have t62 : Two H6 p2 (c, d) := two_same (e5.trans e6) w2
    clear r1 r2 e5 e6 b4 e14 w3 n3 w1 w2
    have pb := s1.pos
    have pd := s2.pos
    have bdn : b * d ≠ 0 := Int.ne_of_gt (Int.mul_pos pb pd)
    have lad := prod_le s1.top s2.bot
    have lcb := prod_le s2.top s1.bot
    have lbd := prod_le s1.bot s2.bot
    have bd60 : (b * d).natAbs < 10 ^ 60 := Nat.lt_of_le_of_lt lbd (by decide +kernel)
    have al := add_lt lad lcb
    have bd8 : (b * d).natAbs < 2 ^ 8000 := prod_lt s1.isC s2.isC
    refine ⟨_, rfl, _, rfl, p1, p2, a, b, c, d, rfl, r61, r62, fun q1 H7 e7 m1 x1 => ?_⟩
    refine ⟨_, rfl, _, rfl, p1, p2, a, b, c, d, rfl, r61.same e7, r62.same e7, fun q2 H8 e8 m2 x2 => ?_⟩
    refine ⟨_, rfl, _, rfl, p1, p2, a, b, c, d, rfl, (r61.same e7).same e8, (r62.same e7).same e8, fun q3 H9 e9 m3 x3 => ?_⟩
    refine ⟨(by show 3 ≤ sizeLine; decide), fun p4 n4 => ?_⟩
    have e69 : Same H6 (upd H9 p4 (.lst [.ref q1, .ref q2, .ref q3])) := (e7.trans (e8.trans e9)).trans (same_new n4)
    have x1' : Two (upd H9 p4 (.lst [.ref q1, .ref q2, .ref q3])) q1 _ := two_same ((e8.trans e9).trans (same_new n4)) x1
    have x2' : Two (upd H9 p4 (.lst [.ref q1, .ref q2, .ref q3])) q2 _ := two_same (e9.trans (same_new n4)) x2
    have x3' : Two (upd H9 p4 (.lst [.ref q1, .ref q2, .ref q3])) q3 _ := two_same (same_new n4) x3
    have x4 : (upd H9 p4 (.lst [.ref q1, .ref q2, .ref q3])) p4 = some (.lst [.ref q1, .ref q2, .ref q3]) := upd_same
    generalize upd H9 p4 (HO.lst [V.ref q1, V.ref q2, V.ref q3]) = HA at *
    clear e7 e8 e9 m1 m2 m3 n4 x1 x2 x3
    have ra1 := r61.same e69
    have ra2 := r62.same e69
    have ta1 := two_same e69 t61
    have ta2 := two_same e69 t62
    have eA : But b0 H HA := e16.trans (But.of e69)
    have bA : Bag HA b0 := b6.same e69
    -- told != [..]
    refine ⟨_, rfl, ?_⟩
    refine ⟨_, rfl, _, rfl, _, _, rfl, rfl, mad, _, rfl, _, rfl, _, _, rfl, rfl, mcb, _, _, rfl, rfl, _, rfl, _, rfl, _, _, rfl, rfl, mulw s1.isC s2.isC, _, _, rfl, bdn, bd8, fun y1 HB eB nB z1 => ?_⟩
    refine ⟨_, rfl, _, rfl, _, _, rfl, rfl, mad, _, rfl, _, rfl, _, _, rfl, rfl, mcb, _, _, rfl, rfl, _, rfl, _, rfl, _, _, rfl, rfl, mulw s1.isC s2.isC, _, _, rfl, bdn, bd8, fun y2 HC eC nC z2 => ?_⟩
    refine ⟨_, rfl, _, rfl, _, _, rfl, rfl, mulw s1.isA s2.isA, _, rfl, _, rfl, _, _, rfl, rfl, mulw s1.isC s2.isC, _, _, rfl, bdn, bd8, fun y3 HD eD nD z3 => ?_⟩
    refine ⟨(by show 3 ≤ sizeLine; decide), fun p5 n5 => ?_⟩
    have eAE : Same HA (upd HD p5 (.lst [.ref y1, .ref y2, .ref y3])) := (eB.trans (eC.trans eD)).trans (same_new n5)
    have dl1 := three_dp (K := K) (eAE _ _ x4) (two_same eAE x1') (two_same eAE x2') (two_same eAE x3')
    have dl2 := three_dp (K := K) (p := p5) upd_same (two_same ((eC.trans eD).trans (same_new n5)) z1) (two_same (eD.trans (same_new n5)) z2) (two_same (same_new n5) z3)
    refine ⟨_, _, dl1, dl2, three_shaped, three_shaped, _, rfl, ?_⟩
    rw [eqv_three]
    refine iteF ?_
    have eAE' := eAE
    have g4 := eAE _ _ x4
    have g1 := two_same eAE x1'
    have g2 := two_same eAE x2'
    have k1 := ra1.same eAE
    have k2 := ra2.same eAE
    have v1 := two_same eAE ta1
    have v2 := two_same eAE ta2
    have eE : But b0 H (upd HD p5 (.lst [.ref y1, .ref y2, .ref y3])) := eA.trans (But.of eAE)
    have bE : Bag (upd HD p5 (.lst [.ref y1, .ref y2, .ref y3])) b0 := bA.same eAE
    clear dl1 dl2 z1 z2 z3 eB eC eD nB nC nD n5 x4 x1' x2' x3' ra1 ra2 ta1 ta2 eAE eAE' eA bA
    generalize upd HD p5 (HO.lst [V.ref y1, V.ref y2, V.ref y3]) = HE at *
    have rr1 : Rat K HE q1 (low (a * d + c * b) (b * d)).1 (low (a * d + c * b) (b * d)).2 := two_rat g1 (rat_low bdn al.1 bd60)
    have rr2 : Rat K HE q2 (low (a * d - c * b) (b * d)).1 (low (a * d - c * b) (b * d)).2 := two_rat g2 (rat_low bdn al.2 bd60)
    have sq4 : SqL K HE p4 [.ref q1, .ref q2, .ref q3] := Evl.sq_of g4
    refine ⟨_, rfl, p4, _, 1, _, rfl, rfl, sq4, rfl, _, rfl, q2, p2, _, _, c, d, rfl, rr2, k2, fun q5 HF eF nF xF => ?_⟩
    rw [back_plus pb pd s1.gcd] at xF
    refine ⟨_, rfl, _, _, two_dp xF, two_dp (two_same eF v1), rfl, rfl, _, rfl, ?_⟩
    rw [eqv_two]
    refine iteT ?_
    refine ⟨_, rfl, p4, _, 0, _, rfl, rfl, same_l eF sq4, rfl, _, rfl, q1, p1, _, _, a, b, rfl, rr1.same eF, k1.same eF, fun q6 HG eG nG xG => ?_⟩
    rw [back_minus pb pd s2.gcd] at xG
    refine ⟨_, rfl, _, _, two_dp xG, two_dp (two_same eG (two_same eF v2)), rfl, rfl, _, rfl, ?_⟩
    rw [eqv_two]
    refine iteT ?_
    refine ⟨_, rfl, p4, _, 1, _, rfl, rfl, same_l eG (same_l eF sq4), rfl, (by show 2 ≤ sizeLine; decide), fun p7 n7 => ?_⟩
    have eH : Same HG (upd HG p7 (.tup [.int 0, .int 1])) := same_new n7
    have r01 : Rat K (upd HG p7 (.tup [.int 0, .int 1])) p7 0 1 := two_rat (a := 0) (c := 1) upd_same (by decide +kernel)
    refine ⟨q2, p7, _, _, 0, 1, rfl, ((rr2.same eF).same eG).same eH, r01, fun HI eI => ?_⟩
    rw [cmp_low pb pd, hdue]
    refine ⟨_, rfl, rfl, ?_⟩
    rw [decide_eq_true rfl]
    exact q HI (eE.trans (But.of (eF.trans (eG.trans (eH.trans eI))))) ((((bE.same eF).same eG).same eH).same eI)
end
end K01

set_option maxHeartbeats 1000000
namespace K01
open PySem PySem.Spec PyProof.Rows L2 My M01
section
variable {P : Program} {w : World} {K : PySem.W.Frag} {mg : Str → Option Value} {base : Heap} {A : Adr}
theorem lt200 {n : Nat} (h : n ≤ 10 ^ 55) : n < 2 ^ 200 := by
  have e : (10 : Nat) ^ 55 < 2 ^ 200 := by decide +kernel
  exact Nat.lt_of_le_of_lt h e
theorem share_le55 {s r : Int} (hs : s.natAbs ≤ 10 ^ 30) (hr : r.natAbs ≤ 10 ^ 25) : (s * r).natAbs ≤ 10 ^ 55 := by
  rw [Int.natAbs_mul]
  exact Nat.le_trans (Nat.mul_le_mul hs hr) (by decide +kernel)
theorem lt60 {n : Int} (h : n.natAbs ≤ 10 ^ 55) : isI (.int n) = true := isI_of (Nat.lt_of_le_of_lt h (by decide +kernel))
def Len (m : Int) : Prop := m = 1 ∨ m = 2 ∨ m = 3 ∨ m = 5 ∨ m = 100
theorem pad_reads {σ : St} {H : Hp} {i : Nat} {l : Addr} {ns : List Int} (len : Len ns.length) (hv : σ[i]? = some (some (.ref l))) (hT : SqT K H l (ns.map V.int)) :
    ∀ H1, Same H H1 → ∀ Q : VK, (∀ p H2, Same H1 H2 → SqT K H2 p ((ns ++ List.replicate (100 - ns.length) 0).map V.int) → Q (.ref p) H2) →
    tOp (rCatA K) (tVar i) (tOp (rRepB K) (tTup (tCons (tC (.int 0)) tNil)) (tOp (rI0 fun i j => .int (i - j)) (tC (.int 100))
      (tCB (fun xs H Q => ∃ p ys, xs = [.ref p] ∧ (SqL K H p ys ∨ SqT K H p ys) ∧ Q (.int ys.length) H) (tCons (tVar i) tNil)))) σ H1 Q := by
  intro H1 e Q q
  have hT1 := same_t e hT
  have l1 : 1 ≤ ns.length ∧ ns.length ≤ 100 := by unfold Len at len; omega
  refine ⟨_, hv, (by show 1 ≤ sizeLine; decide), fun p hp => ⟨_, hv, l, _, rfl, Or.inr (same_t (same_new hp) hT1), _, _, rfl, rfl, ?_⟩⟩
  have ne : ns.map V.int ≠ [] := by
    intro z
    have := congrArg List.length z
    simp at this
    rw [this] at l1
    simp at l1
  by_cases c : ns.length = 100
  · have c2 : (100 : Int) - ((ns.map V.int).length : Int) = 0 := by rw [List.length_map, c]; rfl
    show rRepB K (.ref p) (.int ((100 : Int) - ((ns.map V.int).length : Int))) _ _
    rw [c2]
    refine Or.inr ⟨p, [.int 0], rfl, rfl, Or.inl (Or.inl upd_same), by simp, fun p2 hp2 => ?_⟩
    refine ⟨l, p2, _, [], rfl, rfl, same_t (same_new hp2) (same_t (same_new hp) hT1), Or.inl (Or.inl upd_same), ?_, fun z => absurd z ne, fun _ _ => ?_, fun _ z => absurd rfl z⟩
    · rw [List.length_map]
      exact Evl.sz_of (by simp; omega)
    · refine q l _ ((same_new hp).trans (same_new hp2)) ?_
      rw [c]
      simpa using same_t (same_new hp2) (same_t (same_new hp) hT1)
  · have c2 : (100 : Int) - ((ns.map V.int).length : Int) = ((100 - ns.length : Nat) : Int) := by rw [List.length_map]; omega
    show rRepB K (.ref p) (.int ((100 : Int) - ((ns.map V.int).length : Int))) _ _
    rw [c2]
    have big : 2 ≤ 100 - ns.length := by unfold Len at len; omega
    refine Or.inl ⟨p, _, [.int 0], rfl, rfl, Or.inl (Or.inl upd_same), by simp, by omega, by omega, by simp, fun p2 hp2 => ?_⟩
    rw [Int.toNat_natCast, rep_zero]
    refine ⟨l, p2, _, _, rfl, rfl, same_t (same_new hp2) (same_t (same_new hp) hT1), Or.inl (Or.inl upd_same), ?_, fun z => absurd z ne, fun _ z => ?_, fun _ _ p3 hp3 => ?_⟩
    · rw [List.length_map, List.length_map, List.length_replicate]
      exact Evl.sz_of (by omega)
    · have := congrArg List.length z
      rw [List.length_map, List.length_replicate] at this
      simp at this
      omega
    · refine q p3 _ ((same_new hp).trans ((same_new hp2).trans (same_new hp3))) (Or.inl (Or.inl ?_))
      rw [upd_same, List.map_append]
theorem ok__law_lowered (T : Txt K mg A) : FnOk P w K mg base CX0 5 A.a__law_lowered A.d__law_lowered ["_law_bag_here"] sp_true := by
  have G__law_one_of : FnOk P w K mg base CX0 2 A.a__law_one_of A.d__law_one_of ["_law_bag_here", "_law_items"] (sp_one_of K) := ok__law_one_of T
  have G__law_whole : FnOk P w K mg base CX0 2 A.a__law_whole A.d__law_whole ["_law_bag_here", "_law_high"] sp_whole := ok__law_whole T
  have G__law_grab : FnOk P w K mg base CX0 1 A.a__law_grab A.d__law_grab ["_law_bag_here", "_law_total"] sp_grab := ok__law_grab T
  have G__law_divisor : FnOk P w K mg base CX0 1 A.a__law_divisor A.d__law_divisor ["_law_numbers"] (sp_divisor_of K) := ok__law_divisor T
  have G_common_divisor : FnOk P w K mg base CX0 4 A.a_common_divisor A.d_common_divisor ["numbers"] (sp_common_divisor K) := ok_common_divisor T
  have G_lowest : FnOk P w K mg base CX0 3 A.a_lowest A.d_lowest ["top", "bottom"] (sp_lowest K) := ok_lowest T
  have G__law_lowered_pair : FnOk P w K mg base CX0 2 A.a__law_lowered_pair A.d__law_lowered_pair ["_law_top", "_law_bottom"] sp_lowered_pair := ok__law_lowered_pair T
  have G__law_is_ratio : FnOk P w K mg base CX0 2 A.a__law_is_ratio A.d__law_is_ratio ["_law_value"] (sp_is_ratio K) := ok__law_is_ratio T
  refine T.f__law_lowered.ok sc__law_lowered (fun vs H Q E h => ?_) (fun cdv B out t H vs Q E hr h => ?_)
  · obtain ⟨b, rfl, _⟩ := h
    rfl
  · obtain ⟨b, rfl, bag, q⟩ := h
    refine ⟨_, (pss_cons (ps_set (i := 1) sc__law_lowered.nd rfl (Or.inr rfl) (pe_call G__law_one_of (hr.mono (by decide)) (by rfl) T.g__law_one_of T.f__law_one_of.kp (b__law_one_of T) .nil pass0 (pa_cons (pv 0) (pa_cons (pe_lst (pa_cons pe_int (pa_cons pe_int (pa_cons (pe_op op_pow pe_int pe_int) pa_nil)))) pa_nil))))
      (pss_cons (ps_set (i := 2) sc__law_lowered.nd rfl (Or.inr rfl) (pe_call G__law_one_of (hr.mono (by decide)) (by rfl) T.g__law_one_of T.f__law_one_of.kp (b__law_one_of T) .nil pass0 (pa_cons (pv 0) (pa_cons (pe_lst (pa_cons pe_int (pa_cons pe_int (pa_cons pe_int (pa_cons pe_int (pa_cons (pe_op op_pow pe_int pe_int) pa_nil)))))) pa_nil))))
      (pss_cons (ps_set (i := 3) sc__law_lowered.nd rfl (Or.inl rfl) (pe_callTy call_tuple_of (by rfl) T.n_tuple (by decide +kernel) (pa_cons (pe_lc (own := [("_law_turn", 4)]) (g := gName 4) (tt := tYes)  rfl sc__law_lowered.nd (pi_range1 (by rfl) T.n_range (pa_cons (pe_call G__law_one_of (hr.mono (by decide)) (by rfl) T.g__law_one_of T.f__law_one_of.kp (b__law_one_of T) .nil pass0 (pa_cons (pv 0) (pa_cons (pe_lst (pa_cons pe_int (pa_cons pe_int (pa_cons pe_int (pa_cons pe_int (pa_cons pe_int pa_nil)))))) pa_nil))) pa_nil)) (blkOk_by (own := [("_law_turn", 4)]) (N := names__law_lowered) (sc := defScope s__law_lowered) (by decide +kernel)) (fun _ _ _ _ _ => (pg_name (i := 4) sc__law_lowered.nd rfl (Or.inl rfl))) (fun _ _ _ _ _ => pts_nil) (fun _ _ _ _ _ => (pe_op op_mulW (pv 2) (pe_call G__law_whole (hr.mono (by decide)) (by rfl) T.g__law_whole T.f__law_whole.kp (b__law_whole T) .nil pass0 (pa_cons (pv 0) (pa_cons (pv 1) pa_nil)))))) pa_nil)))
      (pss_cons (ps_if (PW.pt (pw_or (pt_cmpR op_ne (pe_call G_common_divisor (hr.mono (by decide)) (by rfl) T.g_common_divisor T.f_common_divisor.kp (b_common_divisor T) .nil pass0 (pa_cons (pv 3) pa_nil)) (pe_call G__law_divisor (hr.mono (by decide)) (by rfl) T.g__law_divisor T.f__law_divisor.kp (b__law_divisor T) .nil pass0 (pa_cons (pv 3) pa_nil)) (nomark _)) (pw_or1 (pt_cmpR op_ne (pe_call G_common_divisor (hr.mono (by decide)) (by rfl) T.g_common_divisor T.f_common_divisor.kp (b_common_divisor T) .nil pass0 (pa_cons (pe_op op_catA (pv 3) (pe_op op_repB (pe_tup (pa_cons pe_int pa_nil)) (pe_op op_sub pe_int (pe_callB call_len_seq (by rfl) T.n_len (by decide +kernel) (pa_cons (pv 3) pa_nil))))) pa_nil)) (pe_call G__law_divisor (hr.mono (by decide)) (by rfl) T.g__law_divisor T.f__law_divisor.kp (b__law_divisor T) .nil pass0 (pa_cons (pv 3) pa_nil)) (nomark _))))) (pss_one (ps_ret pe_bl)) pss_nil)
      (pss_cons (ps_par (i := 5) (j := 6) (by rfl) sc__law_lowered.nd rfl rfl (by decide) rfl rfl (pa_cons (pe_op op_mulW (pv 2) (pe_call G__law_whole (hr.mono (by decide)) (by rfl) T.g__law_whole T.f__law_whole.kp (b__law_whole T) .nil pass0 (pa_cons (pv 0) (pa_cons (pv 1) pa_nil)))) (pa_cons (pe_op op_mulW (pe_op op_mulW (pv 2) (pe_op op_add pe_int (pe_call G__law_grab (hr.mono (by decide)) (by rfl) T.g__law_grab T.f__law_grab.kp (b__law_grab T) .nil pass0 (pa_cons (pv 0) (pa_cons (pv 1) pa_nil))))) (pe_call G__law_one_of (hr.mono (by decide)) (by rfl) T.g__law_one_of T.f__law_one_of.kp (b__law_one_of T) .nil pass0 (pa_cons (pv 0) (pa_cons (pe_lst (pa_cons pe_int (pa_cons (pe_un un_neg pe_int) pa_nil))) pa_nil)))) pa_nil)) (by rfl))
      (pss_one (ps_ret (pe_and (pe_cmpR (op_eqD hr.units) (pe_call G_lowest (hr.mono (by decide)) (by rfl) T.g_lowest T.f_lowest.kp (b_lowest T) .nil pass0 (pa_cons (pv 5) (pa_cons (pv 6) pa_nil))) (pe_call G__law_lowered_pair (hr.mono (by decide)) (by rfl) T.g__law_lowered_pair T.f__law_lowered_pair.kp (b__law_lowered_pair T) .nil pass0 (pa_cons (pv 5) (pa_cons (pv 6) pa_nil))) (nomark _)) (pe_and (pe_call G__law_is_ratio (hr.mono (by decide)) (by rfl) T.g__law_is_ratio T.f__law_is_ratio.kp (b__law_is_ratio T) .nil pass0 (pa_cons (pe_call G_lowest (hr.mono (by decide)) (by rfl) T.g_lowest T.f_lowest.kp (b_lowest T) .nil pass0 (pa_cons (pv 5) (pa_cons (pv 6) pa_nil))) pa_nil)) (pe_one (pe_cmpR (op_eqD hr.units) (pe_call G_lowest (hr.mono (by decide)) (by rfl) T.g_lowest T.f_lowest.kp (b_lowest T) .nil pass0 (pa_cons pe_int (pa_cons (pv 6) pa_nil))) (pe_tup (pa_cons pe_int (pa_cons pe_int pa_nil))) (nomark _)))))))))))), ?_⟩
    -- high
    refine ⟨_, rfl, _, _, rfl, rfl, ⟨by decide, by decide, by decide⟩, (by show 3 ≤ sizeLine; decide), fun p0 hp0 => ?_⟩
    refine ⟨b, p0, _, rfl, bag.upd hp0, bag.ne hp0, Evl.sq_of upd_same, by simp, by simp, fun v H1 hv e1 b1 => ?_⟩
    obtain ⟨n, rfl, n0, n1⟩ : ∃ n : Int, v = .int n ∧ 1 ≤ n ∧ n.natAbs ≤ 10 ^ 25 := by
      simp only [List.mem_cons, List.not_mem_nil, or_false] at hv
      rcases hv with h | h | h <;> subst h <;> exact ⟨_, rfl, by decide +kernel, by decide +kernel⟩
    have e01 : But b H H1 := (But.of (same_new hp0)).trans e1
    clear e1 hp0 hv
    -- share
    refine ⟨_, rfl, _, _, rfl, rfl, ⟨by decide, by decide, by decide⟩, (by show 5 ≤ sizeLine; decide), fun p2 hp2 => ?_⟩
    refine ⟨b, p2, _, rfl, b1.upd hp2, b1.ne hp2, Evl.sq_of upd_same, by simp, by simp, fun v H2 hv e2 b2 => ?_⟩
    obtain ⟨s, rfl, s0, s1⟩ : ∃ n : Int, v = .int n ∧ 1 ≤ n ∧ n.natAbs ≤ 10 ^ 30 := by
      simp only [List.mem_cons, List.not_mem_nil, or_false] at hv
      rcases hv with h | h | h | h | h <;> subst h <;> exact ⟨_, rfl, by decide +kernel, by decide +kernel⟩
    have e02 : But b H H2 := e01.trans ((But.of (same_new hp2)).trans e2)
    clear e2 hp2 hv e01 b1
    have nb : n.natAbs < 2 ^ 200 := lt200 (Nat.le_trans n1 (by decide +kernel))
    have sb : s.natAbs < 2 ^ 200 := lt200 (Nat.le_trans s1 (by decide +kernel))
    -- numbers
    change tSeq _ _ _ _ _
    dsimp only [tSeq, tAsg, tCB, tCons]
    refine comp_rb (b := b) Len (fun y => ∃ n : Int, y = .int n ∧ n.natAbs ≤ 10 ^ 55) ?_ ?_ ?_ ?_
    · exact fun _ => rfl
    · intro x H3 e3 b3 Q' k
      refine ⟨_, rfl, _, rfl, _, rfl, b, n, rfl, b3, by omega, nb, fun r H4 r0 r1 e4 b4 => ?_⟩
      have rb : r.natAbs ≤ n.natAbs := by omega
      exact ⟨_, _, rfl, rfl, wide_mul sb (Nat.lt_of_le_of_lt rb nb) (by decide) (by decide) (by decide), k _ _ ⟨_, rfl, share_le55 s1 (Nat.le_trans rb n1)⟩ e4 b4⟩
    · intro D ys H3 e3 b3 nD hD len oks hDy
      obtain ⟨ns, rfl, hns⟩ := oks_ints ys oks
      rw [List.length_map] at len
      refine ⟨D, _, rfl, Or.inl ⟨Evl.sq_of hDy, fun l hl => ?_⟩⟩
      have eN : But b H (upd H3 l (.tup (ns.map V.int))) := (e02.trans e3).trans (But.of (same_new hl))
      have bN : Bag (upd H3 l (.tup (ns.map V.int))) b := b3.upd hl
      have tN : SqT K (upd H3 l (.tup (ns.map V.int))) l (ns.map V.int) := Or.inl (Or.inl upd_same)
      clear hDy hl oks hD nD e3 b3 e02 b2
      generalize upd H3 l (HO.tup (ns.map V.int)) = HN at *
      have isn : ∀ m ∈ ns, isI (.int m) = true := fun m hm => lt60 (hns m hm)
      have l1 : 1 ≤ ns.length := by unfold Len at len; omega
      have l2 : ns.length ≤ 100 := by unfold Len at len; omega
      refine ⟨_, rfl, l, ns, rfl, tN, l1, l2, isn, fun H4 e4 => ⟨_, rfl, l, ns, rfl, same_t e4 tN, rfl, _, rfl, iteNS rfl ?_⟩⟩
      refine pad_reads (l := l) (ns := ns) len rfl (same_t e4 tN) H4 (Same.refl _) _ fun p4 H5 e5 t5 => ?_
      refine ⟨p4, _, rfl, t5, by rw [List.length_append]; omega, by rw [List.length_append, List.length_replicate]; omega, ?_, fun H6 e6 => ?_⟩
      · intro m hm
        rcases List.mem_append.mp hm with h | h
        · exact isn m h
        · rw [List.eq_of_mem_replicate h]
          decide +kernel
      refine ⟨_, rfl, l, ns, rfl, same_t e6 (same_t e5 (same_t e4 tN)), rfl, _, rfl, ?_⟩
      rw [gcdL_zeros]
      refine iteNS rfl ?_
      have eO : But b H H6 := eN.trans (But.of (e4.trans (e5.trans e6)))
      have bO : Bag H6 b := ((bN.same e4).same e5).same e6
      clear e4 e5 e6 t5 tN eN bN
      -- top, bottom
      refine ⟨_, rfl, _, rfl, _, rfl, b, n, rfl, bO, by omega, nb, fun r H7 r0 r1 e7 b7 => ?_⟩
      have rb : r.natAbs ≤ n.natAbs := by omega
      refine ⟨_, _, rfl, rfl, wide_mul sb (Nat.lt_of_le_of_lt rb nb) (by decide) (by decide) (by decide), ?_⟩
      refine ⟨_, rfl, _, rfl, _, rfl, b, n, rfl, b7, by omega, log_big nb (by decide) (by decide), fun g H8 g0 g1 e8 b8 => ⟨_, _, rfl, rfl, ?_⟩⟩
      have gb : (1 + g).natAbs ≤ n.natAbs := by omega
      refine ⟨_, _, rfl, rfl, wide_mul sb (Nat.lt_of_le_of_lt gb nb) (by decide) (by decide) (by decide), ?_⟩
      refine ⟨_, rfl, 1, rfl, (by show 2 ≤ sizeLine; decide), fun p8 hp8 => ?_⟩
      refine ⟨b, p8, _, rfl, b8.upd hp8, b8.ne hp8, Evl.sq_of upd_same, by simp, by simp, fun v H9 hv e9 b9 => ?_⟩
      obtain ⟨z, rfl, hz⟩ : ∃ z : Int, v = .int z ∧ (z = 1 ∨ z = -1) := by
        simp only [List.mem_cons, List.not_mem_nil, or_false] at hv
        rcases hv with h | h <;> subst h <;> exact ⟨_, rfl, by decide⟩
      have zb : z.natAbs < 2 ^ 2 := by rcases hz with h | h <;> subst h <;> decide
      have s1g := share_le55 s1 (Nat.le_trans gb n1)
      refine ⟨_, _, rfl, rfl, wide_mul (lt200 s1g) zb (by decide) (by decide) (by decide), _, _, rfl, ?_⟩
      have eF : But b H H9 := ((eO.trans e7).trans e8).trans ((But.of (same_new hp8)).trans e9)
      have bB : (s * (1 + g) * z).natAbs ≤ 10 ^ 55 := by
        rw [Int.natAbs_mul]
        have : z.natAbs = 1 := by rcases hz with h | h <;> subst h <;> rfl
        rw [this, Nat.mul_one]
        exact s1g
      have bn : s * (1 + g) * z ≠ 0 := by
        have h1 : s * (1 + g) ≠ 0 := Int.ne_of_gt (Int.mul_pos (by omega) (by omega))
        rcases hz with h | h <;> subst h
        · rw [Int.mul_one]
          exact h1
        · intro k
          apply h1
          omega
      have tB := share_le55 s1 (Nat.le_trans rb n1)
      clear bO eO e7 e8 b7 b8 hp8 e9 hv
      have iT := lt60 tB
      have iB := lt60 bB
      have b8k : (s * (1 + g) * z).natAbs < 2 ^ 8000 := Nat.lt_of_lt_of_le (isI_lt iB) (Nat.pow_le_pow_right (by decide) (by decide))
      refine ⟨_, rfl, _, rfl, (s * r), (s * (1 + g) * z), rfl, iT, iB, bn, fun u1 HA eA nA tA => ?_⟩
      refine ⟨_, rfl, _, rfl, (s * r), (s * (1 + g) * z), rfl, bn, b8k, fun u2 HB eB nB tB2 => ?_⟩
      refine ⟨_, _, two_dp (two_same eB tA), two_dp tB2, rfl, rfl, _, rfl, ?_⟩
      rw [eqv_two]
      refine iteT ?_
      refine ⟨_, rfl, _, rfl, (s * r), (s * (1 + g) * z), rfl, iT, iB, bn, fun u3 HC eC nC tC => ?_⟩
      refine ⟨.ref u3, .tuple [.int (low (s * r) (s * (1 + g) * z)).1, .int (low (s * r) (s * (1 + g) * z)).2], rfl, .tup (Or.inl (Or.inl tC)) (.cons (.int _) (.cons (.int _) .nil)), fun HD eD => ⟨_, rfl, ?_⟩⟩
      rw [rat_low bn (Nat.lt_of_le_of_lt tB (by decide +kernel)) (Nat.lt_of_le_of_lt bB (by decide +kernel))]
      refine iteT ?_
      refine ⟨_, rfl, 0, (s * (1 + g) * z), rfl, by decide +kernel, iB, bn, fun u4 HE eE nE tE => ?_⟩
      rw [low_zero bn] at tE
      refine ⟨(by show 2 ≤ sizeLine; decide), fun u5 n5 => ?_⟩
      refine ⟨_, _, two_dp (two_same (same_new n5) tE), two_dp (p := u5) (r := (0, 1)) upd_same, rfl, rfl, ?_⟩
      rw [eqv_two]
      exact q _ (eF.trans (But.of ((eA.trans eB).trans ((eC.trans eD).trans (eE.trans (same_new n5)))))) (b9.same ((eA.trans eB).trans ((eC.trans eD).trans (eE.trans (same_new n5)))))
    · intro Q' k
      refine ⟨_, rfl, (by show 5 ≤ sizeLine; decide), fun p3 hp3 => ?_⟩
      refine ⟨b, p3, _, rfl, b2.upd hp3, b2.ne hp3, Evl.sq_of upd_same, by simp, by simp, fun v H4 hv e4 b4 => ?_⟩
      simp only [List.mem_cons, List.not_mem_nil, or_false] at hv
      rcases hv with h | h | h | h | h <;> subst h <;> exact k _ _ (by decide) (by decide) (by unfold Len; decide) ((But.of (same_new hp3)).trans e4) b4
end
end K01

set_option maxHeartbeats 1000000
namespace K01
open PySem PySem.Spec PyProof.Rows L2 My M01
section
variable {P : Program} {w : World} {K : PySem.W.Frag} {mg : Str → Option Value} {base : Heap} {A : Adr}
def sp_law (K : PySem.W.Frag) : Sp := fun vs H Q _ => ∃ (a : Addr) (ns : List Int), vs = [.ref a] ∧ SqL K H a (ns.map V.int) ∧ ns.length ≤ 63 ∧ ∀ H', Q (.bl true) H'
theorem But.back {b : Addr} {H H1 H2 : Hp} (e : Same H H1) (n : H b = none) (e2 : But b H1 H2) : Same H H2 := fun a o h => e2 a o (e a o h) (ne_of_none h n)
def toldD : PyData := .list [.tuple [.int (-3), .int 2], .int (-1), .tuple [.int 5, .int 6], .tuple [.int 1, .int 2], .int 0]
theorem two_jd {p : Addr} {H : Hp} {r : Int × Int} (h : Two H p r) : Jd K H (.ref p) (.tuple [.int r.1, .int r.2]) :=
  .tup (Or.inl (Or.inl h)) (.cons (.int _) (.cons (.int _) .nil))
theorem ok_law (T : Txt K mg A) : FnG P w K mg base CX0 8 A.a_law A.d_law ["_law_script"] (sp_law K) := by
  have G__law_bag : FnOk P w K mg base CX0 1 A.a__law_bag A.d__law_bag ["_law_script", "_law_spot"] (sp_bag K) := ok__law_bag T
  have G__law_judged : FnG P w K mg base CX0 6 A.a__law_judged A.d__law_judged ["_law_bag_here"] sp_true := ok__law_judged T
  have G__law_reckoned : FnG P w K mg base CX0 7 A.a__law_reckoned A.d__law_reckoned ["_law_bag_here"] sp_true := ok__law_reckoned T
  have G__law_lowered : FnOk P w K mg base CX0 5 A.a__law_lowered A.d__law_lowered ["_law_bag_here"] sp_true := ok__law_lowered T
  have G_lowest : FnOk P w K mg base CX0 3 A.a_lowest A.d_lowest ["top", "bottom"] (sp_lowest K) := ok_lowest T
  have G_compare : FnOk P w K mg base CX0 6 A.a_compare A.d_compare ["one", "other"] (sp_compare K) := ok_compare T
  have G_plus : FnOk P w K mg base CX0 6 A.a_plus A.d_plus ["one", "other"] (sp_plus K) := ok_plus T
  have G_times : FnOk P w K mg base CX0 6 A.a_times A.d_times ["one", "other"] (sp_times K) := ok_times T
  have G_common_divisor : FnOk P w K mg base CX0 4 A.a_common_divisor A.d_common_divisor ["numbers"] (sp_common_divisor K) := ok_common_divisor T
  refine fun_g T.f_law sc_law (fun vs H Q E h => ?_) (fun cdv B out t H vs Q E hr hg h => ?_)
  · obtain ⟨a, ns, rfl, _⟩ := h
    rfl
  · obtain ⟨a, ns, rfl, hs, hl, q⟩ := h
    refine ⟨_, (pss_cons (ps_for PassesOwn.never rfl (pi_range1 (by rfl) T.n_range (pa_cons (pe_callB (call_max2 rfl) (by rfl) T.n_max (by decide +kernel) (pa_cons pe_int (pa_cons (pe_callB (call_min2 rfl) (by rfl) T.n_min (by decide +kernel) (pa_cons pe_int (pa_cons (pe_callB call_len_seq (by rfl) T.n_len (by decide +kernel) (pa_cons (pv 0) pa_nil)) pa_nil))) pa_nil))) pa_nil)) (pg_name (i := 1) sc_law.nd rfl (Or.inl rfl)) (pss_cons (ps_set (i := 2) sc_law.nd rfl (Or.inl rfl) (pe_call G__law_bag (hr.mono (by decide)) (by rfl) T.g__law_bag T.f__law_bag.kp (b__law_bag T) .nil pass0 (pa_cons (pv 0) (pa_cons (pv 1) pa_nil))))
      (pss_cons (ps_if (pt_not (pt_val (pe_callG G__law_judged (hr.mono (by decide)) hg (by rfl) T.g__law_judged T.f__law_judged.kp (b__law_judged T) .nil pass0 (pa_cons (pv 2) pa_nil)))) (pss_one (ps_ret pe_bl)) pss_nil)
      (pss_one (ps_for PassesOwn.never rfl (pi_range1 (by rfl) T.n_range (pa_cons pe_int pa_nil)) (pg_name (i := 3) sc_law.nd rfl (Or.inl rfl)) (pss_one (ps_if (PW.pt (pw_or (pt_not (pt_val (pe_callG G__law_reckoned (hr.mono (by decide)) hg (by rfl) T.g__law_reckoned T.f__law_reckoned.kp (b__law_reckoned T) .nil pass0 (pa_cons (pv 2) pa_nil)))) (pw_or1 (pt_not (pt_val (pe_call G__law_lowered (hr.mono (by decide)) (by rfl) T.g__law_lowered T.f__law_lowered.kp (b__law_lowered T) .nil pass0 (pa_cons (pv 2) pa_nil))))))) (pss_one (ps_ret pe_bl)) pss_nil)))))))
      (pss_cons (ps_set (i := 4) sc_law.nd rfl (Or.inl rfl) (pe_lst (pa_cons (pe_call G_lowest (hr.mono (by decide)) (by rfl) T.g_lowest T.f_lowest.kp (b_lowest T) .nil pass0 (pa_cons pe_int (pa_cons (pe_un un_neg pe_int) pa_nil))) (pa_cons (pe_call G_compare (hr.mono (by decide)) (by rfl) T.g_compare T.f_compare.kp (b_compare T) .nil pass0 (pa_cons (pe_tup (pa_cons pe_int (pa_cons pe_int pa_nil))) (pa_cons (pe_tup (pa_cons pe_int (pa_cons pe_int pa_nil))) pa_nil))) (pa_cons (pe_call G_plus (hr.mono (by decide)) (by rfl) T.g_plus T.f_plus.kp (b_plus T) .nil pass0 (pa_cons (pe_tup (pa_cons pe_int (pa_cons pe_int pa_nil))) (pa_cons (pe_tup (pa_cons pe_int (pa_cons pe_int pa_nil))) pa_nil))) (pa_cons (pe_call G_times (hr.mono (by decide)) (by rfl) T.g_times T.f_times.kp (b_times T) .nil pass0 (pa_cons (pe_tup (pa_cons pe_int (pa_cons pe_int pa_nil))) (pa_cons (pe_tup (pa_cons pe_int (pa_cons pe_int pa_nil))) pa_nil))) (pa_cons (pe_call G_common_divisor (hr.mono (by decide)) (by rfl) T.g_common_divisor T.f_common_divisor.kp (b_common_divisor T) .nil pass0 (pa_cons (pe_tup (pa_cons pe_int pa_nil)) pa_nil)) pa_nil)))))))
      (pss_one (ps_ret (pe_cmpR (op_eqD hr.units) (pv 4) (pe_lst (pa_cons (pe_tup (pa_cons (pe_un un_neg pe_int) (pa_cons pe_int pa_nil))) (pa_cons (pe_un un_neg pe_int) (pa_cons (pe_tup (pa_cons pe_int (pa_cons pe_int pa_nil))) (pa_cons (pe_tup (pa_cons pe_int (pa_cons pe_int pa_nil))) (pa_cons pe_int pa_nil)))))) (nomark _)))))), ?_⟩
    have bd : ∀ k : Int, 0 ≤ k → (1 : Int) ≤ (if (if k < 3 then k else 3) > 1 then (if k < 3 then k else 3) else 1) ∧ (if (if k < 3 then k else 3) > 1 then (if k < 3 then k else 3) else 1) ≤ 3 := fun k h => by
      split <;> split <;> omega
    have bn := bd ((ns.map V.int).length : Int) (by omega)
    refine ⟨_, rfl, a, _, rfl, Or.inl hs, _, _, rfl, _, _, rfl, _, rfl, by omega, by omega, ?_⟩
    refine for_range (lo := 0) (n := _) (fun i σ H' => Same H H' ∧ ∃ v1 v2 v3 : Option V, σ = [some (.ref a), v1, v2, v3, none]) ⟨Same.refl _, none, none, none, rfl⟩ ?_ ?_
    · rintro i σ H1 hi ⟨e1, v1, v2, v3, rfl⟩
      refine ⟨_, rfl, _, rfl, a, ns, 0 + i, rfl, same_l e1 hs, by omega, by omega, fun b H2 e2 n2 b2 => ?_⟩
      refine ⟨_, rfl, b, rfl, b2, fun H3 e3 b3 => ⟨_, rfl, iteF ?_⟩⟩
      refine ⟨_, rfl, by decide, by decide, ?_⟩
      refine for_range (lo := 0) (n := 3) (fun j σ H' => But b H2 H' ∧ Bag H' b ∧ ∃ v3 : Option V, σ = [some (.ref a), some (.int (0 + i)), some (.ref b), v3, none]) ⟨e3, b3, v3, rfl⟩ ?_ ?_
      · rintro j σ H4 hj ⟨e4, b4, v3, rfl⟩
        refine ⟨_, rfl, b, rfl, b4, fun H5 e5 b5 => ⟨_, rfl, iteF ?_⟩⟩
        refine ⟨_, rfl, b, rfl, b5, fun H6 e6 b6 => ⟨_, rfl, iteF ?_⟩⟩
        exact ⟨(e4.trans e5).trans e6, b6, some (.int (0 + j)), rfl⟩
      · rintro σ H4 ⟨e4, b4, v3, rfl⟩
        exact ⟨But.back (e1.trans e2) (e1.free n2) e4, _, _, _, rfl⟩
    · rintro σ H1 ⟨e1, v1, v2, v3, rfl⟩
      refine ⟨4, rfl, 6, -4, rfl, by decide +kernel, by decide +kernel, by decide, fun p1 H2 e2 n2 t2 => ?_⟩
      rw [show low 6 (-4) = (-3, 2) by decide +kernel] at t2
      refine ⟨(by show 2 ≤ sizeLine; decide), fun p3 n3 => ⟨(by show 2 ≤ sizeLine; decide), fun p4 n4 => ?_⟩⟩
      have r3 : Rat K (upd (upd H2 p3 (.tup [.int 1, .int 3])) p4 (.tup [.int 1, .int 2])) p3 1 3 := two_rat (two_same (same_new n4) (r := (1, 3)) upd_same) (by decide +kernel)
      have r4 : Rat K (upd (upd H2 p3 (.tup [.int 1, .int 3])) p4 (.tup [.int 1, .int 2])) p4 1 2 := two_rat (a := 1) (c := 2) upd_same (by decide +kernel)
      refine ⟨p3, p4, 1, 3, 1, 2, rfl, r3, r4, fun H5 e5 => ?_⟩
      have t5 := two_same e5 (two_same ((same_new (o := .tup [.int 1, .int 3]) n3).trans (same_new (o := .tup [.int 1, .int 2]) n4)) t2)
      clear r3 r4 e5 n3 n4 t2 n2
      refine ⟨(by show 2 ≤ sizeLine; decide), fun p6 n6 => ⟨(by show 2 ≤ sizeLine; decide), fun p7 n7 => ?_⟩⟩
      have r6 : Rat K (upd (upd H5 p6 (.tup [.int 1, .int 2])) p7 (.tup [.int 1, .int 3])) p6 1 2 := two_rat (two_same (same_new n7) (r := (1, 2)) upd_same) (by decide +kernel)
      have r7 : Rat K (upd (upd H5 p6 (.tup [.int 1, .int 2])) p7 (.tup [.int 1, .int 3])) p7 1 3 := two_rat (a := 1) (c := 3) upd_same (by decide +kernel)
      refine ⟨p6, p7, 1, 2, 1, 3, rfl, r6, r7, fun p8 H8 e8 n8 t8 => ?_⟩
      rw [show low (1 * 3 + 1 * 2) (2 * 3) = (5, 6) by decide +kernel] at t8
      have u8 := two_same e8 (two_same ((same_new (o := .tup [.int 1, .int 2]) n6).trans (same_new (o := .tup [.int 1, .int 3]) n7)) t5)
      clear r6 r7 e8 n6 n7 n8 t5
      refine ⟨(by show 2 ≤ sizeLine; decide), fun p9 n9 => ⟨(by show 2 ≤ sizeLine; decide), fun pa na => ?_⟩⟩
      have r9 : Rat K (upd (upd H8 p9 (.tup [.int 2, .int 3])) pa (.tup [.int 3, .int 4])) p9 2 3 := two_rat (two_same (same_new na) (r := (2, 3)) upd_same) (by decide +kernel)
      have ra : Rat K (upd (upd H8 p9 (.tup [.int 2, .int 3])) pa (.tup [.int 3, .int 4])) pa 3 4 := two_rat (a := 3) (c := 4) upd_same (by decide +kernel)
      refine ⟨p9, pa, 2, 3, 3, 4, rfl, r9, ra, fun pb HB eB nB tB => ?_⟩
      rw [show low (2 * 3) (3 * 4) = (1, 2) by decide +kernel] at tB
      have e8B := ((same_new (o := .tup [.int 2, .int 3]) n9).trans (same_new (o := .tup [.int 3, .int 4]) na)).trans eB
      have vB := two_same e8B u8
      have wB := two_same e8B t8
      clear r9 ra eB n9 na nB t8 u8 e8B
      refine ⟨(by show 1 ≤ sizeLine; decide), fun pc nc => ?_⟩
      refine ⟨pc, [0], rfl, Or.inl (Or.inl upd_same), by decide, by decide, by decide +kernel, fun HC eC => ?_⟩
      have eBC := (same_new (o := .tup [.int 0]) nc).trans eC
      refine ⟨(by show 5 ≤ sizeLine; decide), fun pd nd => ?_⟩
      have eBD := eBC.trans (same_new (o := .lst [.ref p1, .int (cmp (1 * 2) (1 * 3)), .ref p8, .ref pb, .int (gcdL [0])]) nd)
      have d1 : Jd K (upd HC pd (.lst [.ref p1, .int (cmp (1 * 2) (1 * 3)), .ref p8, .ref pb, .int (gcdL [0])])) (.ref pd) toldD :=
        .lst (Evl.sq_of upd_same) (.cons (two_jd (r := (-3, 2)) (two_same eBD vB)) (.cons (.int (-1)) (.cons (two_jd (r := (5, 6)) (two_same eBD wB)) (.cons (two_jd (r := (1, 2)) (two_same eBD tB)) (.cons (.int 0) .nil)))))
      refine ⟨_, rfl, ?_⟩
      refine MkD.now (K := K) (d := toldD) ?_ fun v HE eE jE => ⟨_, _, Jd.dp _ _ rfl (Jd.mono eE _ _ d1), Jd.dp _ _ rfl jE, rfl, rfl, ?_⟩
      · exact mk_lst (mka_cons (mk_tup (mka_cons (mk_neg mk_int) (mka_cons mk_int mka_nil)) (by decide)) (mka_cons (mk_neg mk_int) (mka_cons (mk_tup (mka_cons mk_int (mka_cons mk_int mka_nil)) (by decide))
          (mka_cons (mk_tup (mka_cons mk_int (mka_cons mk_int mka_nil)) (by decide)) (mka_cons mk_int mka_nil))))) (by decide)
      · rw [SeqAt.eqv_refl_plain toldD rfl]
        exact q HE
end
end K01

set_option maxHeartbeats 1000000
namespace K01
open PySem PySem.Spec PyProof.Rows L2 My M01
theorem bind_law {K : PySem.W.Frag} {f : Addr} {fd : FuncData} (F : Fun K "law" "law" s_law f fd) (s : Shared) (u : Value) : BindsTo s fd ⟨[u], []⟩ [("_law_script", u)] := by
  obtain ⟨oc, od, kV, doc, pm, an, cdv, ct, osl, rfl, _, _⟩ := F.ex
  exact .of_eq rfl
theorem def_mk {K : PySem.W.Frag} {h : Heap} {mg : Str → Option Value} {x : Str} {st : Stmt} {f : Addr} {oc : Value} {od an : Option Addr} {osl : Array (Option Value)}
    {kV doc pm cdv ct : Value} (inK : K.In h) (names : h.Ns mainGlobals mg) (a : PySem.W.nsIn K mainGlobals x = some (some (.ref f)))
    (l : K.lookup f = some ⟨oc, od, .func (PySem.W.fnOf x x (defArgs st) (defBody st) (defScope st) .none kV doc pm an cdv ct), osl⟩)
    (c : PySem.W.codeIn K cdv x = true) (k : PySem.W.keepIn K (.ref f) = true) : ∃ (f : Addr) (fd : FuncData), mg x = some (.ref f) ∧ Fun K x x st f fd :=
  ⟨f, _, PySem.W.mg_of inK names a, fun_mk l c k⟩
theorem con_mk {K : PySem.W.Frag} {h : Heap} {mg : Str → Option Value} {x : Str} {v : V} {u : Value} (inK : K.In h) (names : h.Ns mainGlobals mg)
    (a : PySem.W.nsIn K mainGlobals x = some (some u)) (r : RelV v u) : ∃ u : Value, mg x = some u ∧ RelV v u := ⟨u, PySem.W.mg_of inK names a, r⟩
end K01
open PySem PySem.W PyProof.Rows
set_option maxRecDepth 100000 in
set_option maxHeartbeats 0 in
theorem PySem.Challenge.cw_ballgrids_k01_whole_numbers_holds : PySem.Challenge.rw_ballgrids_k01_whole_numbers.Holds := by
  w_on; o_law; k_head; (case hw => w_witness2)
  k_fill
  refine My.walk_g (l := PySem.Challenge.rw_ballgrids_k01_whole_numbers) (n := 63) (k := 8) (x := "_law_script") (sp := K01.sp_law) rfl (by decide) rfl ⟨rfl, by decide, by decide⟩ (fun w h Y => PySem.W.kIn_of Y) ?F (fun K H a ns hl _ hS => ⟨a, ns, rfl, hS, hl, fun _ => rfl⟩)
  case F =>
    intro w mg fa h KX G hmg
    obtain ⟨a_is_whole, d_is_whole, g_is_whole, f_is_whole⟩ : ∃ (f : Addr) (fd : FuncData), mg "is_whole" = some (.ref f) ∧ L2.Fun _ "is_whole" "is_whole" K01.s_is_whole f fd := by
      refine' K01.def_mk (x := "is_whole") (st := K01.s_is_whole) KX G ?a ?l ?c ?k
      (case a => k_is); (case l => k_is); (case c => k_is); (case k => k_is)
    obtain ⟨a_is_integer, d_is_integer, g_is_integer, f_is_integer⟩ : ∃ (f : Addr) (fd : FuncData), mg "is_integer" = some (.ref f) ∧ L2.Fun _ "is_integer" "is_integer" K01.s_is_integer f fd := by
      refine' K01.def_mk (x := "is_integer") (st := K01.s_is_integer) KX G ?a ?l ?c ?k
      (case a => k_is); (case l => k_is); (case c => k_is); (case k => k_is)
    obtain ⟨a_are_integers, d_are_integers, g_are_integers, f_are_integers⟩ : ∃ (f : Addr) (fd : FuncData), mg "are_integers" = some (.ref f) ∧ L2.Fun _ "are_integers" "are_integers" K01.s_are_integers f fd := by
      refine' K01.def_mk (x := "are_integers") (st := K01.s_are_integers) KX G ?a ?l ?c ?k
      (case a => k_is); (case l => k_is); (case c => k_is); (case k => k_is)
    obtain ⟨a_is_ratio, d_is_ratio, g_is_ratio, f_is_ratio⟩ : ∃ (f : Addr) (fd : FuncData), mg "is_ratio" = some (.ref f) ∧ L2.Fun _ "is_ratio" "is_ratio" K01.s_is_ratio f fd := by
      refine' K01.def_mk (x := "is_ratio") (st := K01.s_is_ratio) KX G ?a ?l ?c ?k
      (case a => k_is); (case l => k_is); (case c => k_is); (case k => k_is)
    obtain ⟨a_divisor_of, d_divisor_of, g_divisor_of, f_divisor_of⟩ : ∃ (f : Addr) (fd : FuncData), mg "divisor_of" = some (.ref f) ∧ L2.Fun _ "divisor_of" "divisor_of" K01.s_divisor_of f fd := by
      refine' K01.def_mk (x := "divisor_of") (st := K01.s_divisor_of) KX G ?a ?l ?c ?k
      (case a => k_is); (case l => k_is); (case c => k_is); (case k => k_is)
    obtain ⟨a_ratio_of, d_ratio_of, g_ratio_of, f_ratio_of⟩ : ∃ (f : Addr) (fd : FuncData), mg "ratio_of" = some (.ref f) ∧ L2.Fun _ "ratio_of" "ratio_of" K01.s_ratio_of f fd := by
      refine' K01.def_mk (x := "ratio_of") (st := K01.s_ratio_of) KX G ?a ?l ?c ?k
      (case a => k_is); (case l => k_is); (case c => k_is); (case k => k_is)
    obtain ⟨a_common_divisor, d_common_divisor, g_common_divisor, f_common_divisor⟩ : ∃ (f : Addr) (fd : FuncData), mg "common_divisor" = some (.ref f) ∧ L2.Fun _ "common_divisor" "common_divisor" K01.s_common_divisor f fd := by
      refine' K01.def_mk (x := "common_divisor") (st := K01.s_common_divisor) KX G ?a ?l ?c ?k
      (case a => k_is); (case l => k_is); (case c => k_is); (case k => k_is)
    obtain ⟨a_lowest, d_lowest, g_lowest, f_lowest⟩ : ∃ (f : Addr) (fd : FuncData), mg "lowest" = some (.ref f) ∧ L2.Fun _ "lowest" "lowest" K01.s_lowest f fd := by
      refine' K01.def_mk (x := "lowest") (st := K01.s_lowest) KX G ?a ?l ?c ?k
      (case a => k_is); (case l => k_is); (case c => k_is); (case k => k_is)
    obtain ⟨a_need_ratios, d_need_ratios, g_need_ratios, f_need_ratios⟩ : ∃ (f : Addr) (fd : FuncData), mg "need_ratios" = some (.ref f) ∧ L2.Fun _ "need_ratios" "need_ratios" K01.s_need_ratios f fd := by
      refine' K01.def_mk (x := "need_ratios") (st := K01.s_need_ratios) KX G ?a ?l ?c ?k
      (case a => k_is); (case l => k_is); (case c => k_is); (case k => k_is)
    obtain ⟨a_compare, d_compare, g_compare, f_compare⟩ : ∃ (f : Addr) (fd : FuncData), mg "compare" = some (.ref f) ∧ L2.Fun _ "compare" "compare" K01.s_compare f fd := by
      refine' K01.def_mk (x := "compare") (st := K01.s_compare) KX G ?a ?l ?c ?k
      (case a => k_is); (case l => k_is); (case c => k_is); (case k => k_is)
    obtain ⟨a_plus, d_plus, g_plus, f_plus⟩ : ∃ (f : Addr) (fd : FuncData), mg "plus" = some (.ref f) ∧ L2.Fun _ "plus" "plus" K01.s_plus f fd := by
      refine' K01.def_mk (x := "plus") (st := K01.s_plus) KX G ?a ?l ?c ?k
      (case a => k_is); (case l => k_is); (case c => k_is); (case k => k_is)
    obtain ⟨a_minus, d_minus, g_minus, f_minus⟩ : ∃ (f : Addr) (fd : FuncData), mg "minus" = some (.ref f) ∧ L2.Fun _ "minus" "minus" K01.s_minus f fd := by
      refine' K01.def_mk (x := "minus") (st := K01.s_minus) KX G ?a ?l ?c ?k
      (case a => k_is); (case l => k_is); (case c => k_is); (case k => k_is)
    obtain ⟨a_times, d_times, g_times, f_times⟩ : ∃ (f : Addr) (fd : FuncData), mg "times" = some (.ref f) ∧ L2.Fun _ "times" "times" K01.s_times f fd := by
      refine' K01.def_mk (x := "times") (st := K01.s_times) KX G ?a ?l ?c ?k
      (case a => k_is); (case l => k_is); (case c => k_is); (case k => k_is)
    obtain ⟨a__law_bag, d__law_bag, g__law_bag, f__law_bag⟩ : ∃ (f : Addr) (fd : FuncData), mg "_law_bag" = some (.ref f) ∧ L2.Fun _ "_law_bag" "_law_bag" K01.s__law_bag f fd := by
      refine' K01.def_mk (x := "_law_bag") (st := K01.s__law_bag) KX G ?a ?l ?c ?k
      (case a => k_is); (case l => k_is); (case c => k_is); (case k => k_is)
    obtain ⟨a__law_grab, d__law_grab, g__law_grab, f__law_grab⟩ : ∃ (f : Addr) (fd : FuncData), mg "_law_grab" = some (.ref f) ∧ L2.Fun _ "_law_grab" "_law_grab" K01.s__law_grab f fd := by
      refine' K01.def_mk (x := "_law_grab") (st := K01.s__law_grab) KX G ?a ?l ?c ?k
      (case a => k_is); (case l => k_is); (case c => k_is); (case k => k_is)
    obtain ⟨a__law_one_of, d__law_one_of, g__law_one_of, f__law_one_of⟩ : ∃ (f : Addr) (fd : FuncData), mg "_law_one_of" = some (.ref f) ∧ L2.Fun _ "_law_one_of" "_law_one_of" K01.s__law_one_of f fd := by
      refine' K01.def_mk (x := "_law_one_of") (st := K01.s__law_one_of) KX G ?a ?l ?c ?k
      (case a => k_is); (case l => k_is); (case c => k_is); (case k => k_is)
    obtain ⟨a__law_divisor, d__law_divisor, g__law_divisor, f__law_divisor⟩ : ∃ (f : Addr) (fd : FuncData), mg "_law_divisor" = some (.ref f) ∧ L2.Fun _ "_law_divisor" "_law_divisor" K01.s__law_divisor f fd := by
      refine' K01.def_mk (x := "_law_divisor") (st := K01.s__law_divisor) KX G ?a ?l ?c ?k
      (case a => k_is); (case l => k_is); (case c => k_is); (case k => k_is)
    obtain ⟨a__law_whole, d__law_whole, g__law_whole, f__law_whole⟩ : ∃ (f : Addr) (fd : FuncData), mg "_law_whole" = some (.ref f) ∧ L2.Fun _ "_law_whole" "_law_whole" K01.s__law_whole f fd := by
      refine' K01.def_mk (x := "_law_whole") (st := K01.s__law_whole) KX G ?a ?l ?c ?k
      (case a => k_is); (case l => k_is); (case c => k_is); (case k => k_is)
    obtain ⟨a__law_is_short, d__law_is_short, g__law_is_short, f__law_is_short⟩ : ∃ (f : Addr) (fd : FuncData), mg "_law_is_short" = some (.ref f) ∧ L2.Fun _ "_law_is_short" "_law_is_short" K01.s__law_is_short f fd := by
      refine' K01.def_mk (x := "_law_is_short") (st := K01.s__law_is_short) KX G ?a ?l ?c ?k
      (case a => k_is); (case l => k_is); (case c => k_is); (case k => k_is)
    obtain ⟨a__law_is_ratio, d__law_is_ratio, g__law_is_ratio, f__law_is_ratio⟩ : ∃ (f : Addr) (fd : FuncData), mg "_law_is_ratio" = some (.ref f) ∧ L2.Fun _ "_law_is_ratio" "_law_is_ratio" K01.s__law_is_ratio f fd := by
      refine' K01.def_mk (x := "_law_is_ratio") (st := K01.s__law_is_ratio) KX G ?a ?l ?c ?k
      (case a => k_is); (case l => k_is); (case c => k_is); (case k => k_is)
    obtain ⟨a__law_ratio, d__law_ratio, g__law_ratio, f__law_ratio⟩ : ∃ (f : Addr) (fd : FuncData), mg "_law_ratio" = some (.ref f) ∧ L2.Fun _ "_law_ratio" "_law_ratio" K01.s__law_ratio f fd := by
      refine' K01.def_mk (x := "_law_ratio") (st := K01.s__law_ratio) KX G ?a ?l ?c ?k
      (case a => k_is); (case l => k_is); (case c => k_is); (case k => k_is)
    obtain ⟨a__law_lowered_pair, d__law_lowered_pair, g__law_lowered_pair, f__law_lowered_pair⟩ : ∃ (f : Addr) (fd : FuncData), mg "_law_lowered_pair" = some (.ref f) ∧ L2.Fun _ "_law_lowered_pair" "_law_lowered_pair" K01.s__law_lowered_pair f fd := by
      refine' K01.def_mk (x := "_law_lowered_pair") (st := K01.s__law_lowered_pair) KX G ?a ?l ?c ?k
      (case a => k_is); (case l => k_is); (case c => k_is); (case k => k_is)
    obtain ⟨a__law_judged, d__law_judged, g__law_judged, f__law_judged⟩ : ∃ (f : Addr) (fd : FuncData), mg "_law_judged" = some (.ref f) ∧ L2.Fun _ "_law_judged" "_law_judged" K01.s__law_judged f fd := by
      refine' K01.def_mk (x := "_law_judged") (st := K01.s__law_judged) KX G ?a ?l ?c ?k
      (case a => k_is); (case l => k_is); (case c => k_is); (case k => k_is)
    obtain ⟨a__law_reckoned, d__law_reckoned, g__law_reckoned, f__law_reckoned⟩ : ∃ (f : Addr) (fd : FuncData), mg "_law_reckoned" = some (.ref f) ∧ L2.Fun _ "_law_reckoned" "_law_reckoned" K01.s__law_reckoned f fd := by
      refine' K01.def_mk (x := "_law_reckoned") (st := K01.s__law_reckoned) KX G ?a ?l ?c ?k
      (case a => k_is); (case l => k_is); (case c => k_is); (case k => k_is)
    obtain ⟨a__law_lowered, d__law_lowered, g__law_lowered, f__law_lowered⟩ : ∃ (f : Addr) (fd : FuncData), mg "_law_lowered" = some (.ref f) ∧ L2.Fun _ "_law_lowered" "_law_lowered" K01.s__law_lowered f fd := by
      refine' K01.def_mk (x := "_law_lowered") (st := K01.s__law_lowered) KX G ?a ?l ?c ?k
      (case a => k_is); (case l => k_is); (case c => k_is); (case k => k_is)
    obtain ⟨a_law, d_law, g_law, f_law⟩ : ∃ (f : Addr) (fd : FuncData), mg "law" = some (.ref f) ∧ L2.Fun _ "law" "law" K01.s_law f fd := by
      refine' K01.def_mk (x := "law") (st := K01.s_law) KX G ?a ?l ?c ?k
      (case a => k_is); (case l => k_is); (case c => k_is); (case k => k_is)
    obtain ⟨u_MAX_NUMBERS, c_MAX_NUMBERS, v_MAX_NUMBERS⟩ : ∃ u : Value, mg "MAX_NUMBERS" = some u ∧ L2.RelV (.int 100) u := by
      refine' K01.con_mk (x := "MAX_NUMBERS") KX G ?a ?r
      (case a => k_is); (case r => exact ⟨_, rfl⟩)
    obtain ⟨u_TOO_LONG, c_TOO_LONG, v_TOO_LONG⟩ : ∃ u : Value, mg "TOO_LONG" = some u ∧ L2.RelV (.int (10 ^ 60)) u := by
      refine' K01.con_mk (x := "TOO_LONG") KX G ?a ?r
      (case a => k_is); (case r => exact ⟨_, rfl⟩)
    have n_abs : mg "abs" = none := PySem.W.mg_none_of KX G (by k_is)
    have n_all : mg "all" = none := PySem.W.mg_none_of KX G (by k_is)
    have n_bool : mg "bool" = none := PySem.W.mg_none_of KX G (by k_is)
    have n_int : mg "int" = none := PySem.W.mg_none_of KX G (by k_is)
    have n_isinstance : mg "isinstance" = none := PySem.W.mg_none_of KX G (by k_is)
    have n_len : mg "len" = none := PySem.W.mg_none_of KX G (by k_is)
    have n_max : mg "max" = none := PySem.W.mg_none_of KX G (by k_is)
    have n_min : mg "min" = none := PySem.W.mg_none_of KX G (by k_is)
    have n_range : mg "range" = none := PySem.W.mg_none_of KX G (by k_is)
    have n_repr : mg "repr" = none := PySem.W.mg_none_of KX G (by k_is)
    have n_sum : mg "sum" = none := PySem.W.mg_none_of KX G (by k_is)
    have n_tuple : mg "tuple" = none := PySem.W.mg_none_of KX G (by k_is)
    have g_gcd : mg "gcd" = some (.builtin "math.gcd") := PySem.W.mg_of KX G (by k_is)
    have T : K01.Txt _ mg ⟨a_is_whole, d_is_whole, a_is_integer, d_is_integer, a_are_integers, d_are_integers, a_is_ratio, d_is_ratio, a_divisor_of, d_divisor_of, a_ratio_of, d_ratio_of, a_common_divisor, d_common_divisor, a_lowest, d_lowest, a_need_ratios, d_need_ratios, a_compare, d_compare, a_plus, d_plus, a_minus, d_minus, a_times, d_times, a__law_bag, d__law_bag, a__law_grab, d__law_grab, a__law_one_of, d__law_one_of, a__law_divisor, d__law_divisor, a__law_whole, d__law_whole, a__law_is_short, d__law_is_short, a__law_is_ratio, d__law_is_ratio, a__law_ratio, d__law_ratio, a__law_lowered_pair, d__law_lowered_pair, a__law_judged, d__law_judged, a__law_reckoned, d__law_reckoned, a__law_lowered, d__law_lowered, a_law, d_law, u_MAX_NUMBERS, u_TOO_LONG⟩ := ⟨g_is_whole, f_is_whole, g_is_integer, f_is_integer, g_are_integers, f_are_integers, g_is_ratio, f_is_ratio, g_divisor_of, f_divisor_of, g_ratio_of, f_ratio_of, g_common_divisor, f_common_divisor, g_lowest, f_lowest, g_need_ratios, f_need_ratios, g_compare, f_compare, g_plus, f_plus, g_minus, f_minus, g_times, f_times, g__law_bag, f__law_bag, g__law_grab, f__law_grab, g__law_one_of, f__law_one_of, g__law_divisor, f__law_divisor, g__law_whole, f__law_whole, g__law_is_short, f__law_is_short, g__law_is_ratio, f__law_is_ratio, g__law_ratio, f__law_ratio, g__law_lowered_pair, f__law_lowered_pair, g__law_judged, f__law_judged, g__law_reckoned, f__law_reckoned, g__law_lowered, f__law_lowered, g_law, f_law, n_abs, n_all, n_bool, n_int, n_isinstance, n_len, n_max, n_min, n_range, n_repr, n_sum, n_tuple, c_MAX_NUMBERS, v_MAX_NUMBERS, c_TOO_LONG, v_TOO_LONG, g_gcd⟩
    obtain rfl : fa = a_law := by
      have e := hmg.symm.trans g_law
      cases e
      rfl
    exact ⟨d_law, K01.bind_law f_law, fun base _ _ => K01.ok_law T⟩
