import PyProof.Rows.All
import Wide.All
import OpenK.AllK
import Wide.FinOn
import PyProof.EqAt
import PyProof.EqKinds
import PyProof.TupleCall
import HandS.ForMost
import HandS.Wide
import HandS.Gcd
import HandS.IsInst
import HandS.RaiseMore
import HandS.TupAny
import HandS.TupMul
import HandS.Conv
import HandS.Style
import HandS.Flow
import HandS.Evl
import KE.GoesMore
import KE.KDictZip
import HandS.Rev
import HandS.Star
import HandS.Words
import HandS.Zip
import HandS.Walk
import KE.GoesEnum
import HandS.TryOnly
import KE.DatumOrd
import PySem.Challenge.RW_ballgrids_k06_whole_led_and_moved_tables
set_option Elab.async false
set_option linter.all false
set_option maxRecDepth 100000
set_option maxHeartbeats 2000000
namespace My
open PySem PySem.Spec PyProof.Rows L2
abbrev St := L2.St
/-! ### defs that know that no repr is under way -/
structure FnG (P : Program) (w : World) (K : PySem.W.Frag) (mg : Str → Option Value) (base : Heap) (Z : CXT) (k : Nat)
    (f : Addr) (fd : FuncData) (ps : List Str) (sp : Sp) : Prop where
  many : ∀ vs H Q E, sp vs H Q E → vs.length = ps.length
  does : ∀ (B : Around) (out : List Env) (t : Shared) (H : Hp) (given : Args) (us : List Value) (vs : List V) (Q : VK) (E : XK),
    Room k B → B.guards = some [] → Env0 P w K mg base B out t H → BindsTo t fd given (ps.zip us) → Vals vs us →
    sp vs H Q E → codeAny (model P w) B (.call (.ref f) given) (CR Z out P w H t Q E) t
section
variable {P : Program} {w : World} {K : PySem.W.Frag} {mg : Str → Option Value} {base : Heap} {Z : CXT} {k : Nat}
    {f : Addr} {fd : FuncData} {ps : List Str} {sp : Sp}
theorem FnG.of (F : FnOk P w K mg base Z k f fd ps sp) : FnG P w K mg base Z k f fd ps sp :=
  ⟨F.len, fun B out t H given us vs Q E r _ e b v h => F.run B out t H given us vs Q E r e b v h⟩
theorem deep_guards {A : Around} {env : Env} (h : A.guards = some []) : (A.deeper env).guards = some [] := by
  first
    | exact h
    | (simpa [Around.deeper] using h)
/-- a def of the text by its body, where no repr is under way -/
theorem fn_g {name qual : Str} {params : Arguments} {body : List Stmt} {scope : Scope} {dV kV doc pm cdv ct oc : Value}
    {an od : Option Addr} {osl : Array (Option Value)} {N : List Str}
    (lk : K.lookup f = some ⟨oc, od, .func (PySem.W.fnOf name qual params body scope dV kV doc pm an cdv ct), osl⟩)
    (hcd : PySem.W.codeIn K cdv qual = true) (S : FnScope N ps scope) (hlen : ∀ vs H Q E, sp vs H Q E → vs.length = ps.length)
    (hb : ∀ (B : Around) (out : List Env) (t : Shared) (H : Hp) (vs : List V) (Q : VK) (E : XK),
      Room k (B.deeper (envOfC qual scope t.heap.objs.size f cdv)) →
      (B.deeper (envOfC qual scope t.heap.objs.size f cdv)).guards = some [] → sp vs H Q E →
      ∃ r, PSs (cxOf Z P w K mg base N qual scope f cdv B out t H E) body r ∧
        r { nx := fun _ H' => Q .non H', rt := Q } (start N vs) H) :
    FnG P w K mg base Z (k + 1) f (PySem.W.fnOf name qual params body scope dV kV doc pm an cdv ct) ps sp := by
  refine ⟨hlen, fun B out t H given us vs Q E room gd e0 bnd rel wish => ?_⟩
  have size := hlen _ _ _ _ wish
  have inK : K.In t.heap := e0.mod.kin.keeps fun b o e => (e0.bs b o e).1
  have noLim : t.heap.NoLimit := e0.mod.nolimit.keeps fun b o e => (e0.bs b o e).1
  have kinds : ∀ y ∈ ps.zip us, scope.names.lookup y.1 = some .local ∨
      (scope.names.lookup y.1 = some .cell ∧ ((cellsFrom (t.heap.objs.size + 1) scope.names []).lookup y.1).isSome = true) :=
    fun ⟨n, v⟩ hy => by
      rcases S.par n (List.of_mem_zip hy).1 with z | z
      · exact .inl z
      · exact .inr ⟨z, PySem.W.cellsFrom_some _ _ _ (.inl z)⟩
  refine codeAny_call_function room.depth (inK _ _ lk) rfl S.co S.gen rfl (PySem.W.codeRec_of inK hcd) (bnd _ _ _ _ ?_)
  refine wpAny_newFunctionEnv_cells S.kind kinds fun env0 he0 t1 made => ?_
  subst he0
  refine ⟨noLim.keeps made.toInCall.keep, codeAny_func ?_⟩
  obtain ⟨r, hr, hq⟩ := hb B out t H vs Q E (room.deeper _) (deep_guards gd) wish
  have J0 : Inv (cxOf Z P w K mg base N qual scope f cdv B out t H E) [] (start N vs) H t1 := inv_start S room.hd e0 size rel made
  refine wpAny_mono (hr.run [] t1 (start N vs) H _ J0 hq) (fun flow t2 hs => ?_) fun _ _ hs => hs
  have done : ∀ {σ' : St} {H' : Hp} {v : V} {u : Value},
      Inv (cxOf Z P w K mg base N qual scope f cdv B out t H E) [] σ' H' t2 → RelV v u → Q v H' → CE out P w H t Q u t2 :=
    fun {σ' H' v u} J rv q => ⟨v, H', J.os, J.bare, J.base, J.hok, rv, q⟩
  cases flow with
  | ret u => obtain ⟨v, σ', H', J, rv, q⟩ := hs; exact done J rv q
  | next => obtain ⟨σ', H', J, q⟩ := hs; exact done (v := V.non) (u := Value.none) J rfl q
  | brk => obtain ⟨_, _, _, q⟩ := hs; exact False.elim q
  | cont => obtain ⟨_, _, _, q⟩ := hs; exact False.elim q
/-- the same for a def as it stands behind the top; nothing is raised out of it -/
theorem fun_g {x qual : Str} {st : Stmt} {N : List Str} (F : Fun K x qual st f fd) (S : FnScope N ps (defScope st))
    (hlen : ∀ vs H Q E, sp vs H Q E → vs.length = ps.length)
    (hb : ∀ (cdv : Value) (B : Around) (out : List Env) (t : Shared) (H : Hp) (vs : List V) (Q : VK) (E : XK),
      Room k (B.deeper (envOfC qual (defScope st) t.heap.objs.size f cdv)) →
      (B.deeper (envOfC qual (defScope st) t.heap.objs.size f cdv)).guards = some [] → sp vs H Q E →
      ∃ r, PSs (cxOf CX0 P w K mg base N qual (defScope st) f cdv B out t H E).nox (defBody st) r ∧
        r { nx := fun _ H' => Q .non H', rt := Q } (start N vs) H) : FnG P w K mg base CX0 (k + 1) f fd ps sp := by
  obtain ⟨oc, od, kV, doc, pm, an, cdv, ct, osl, rfl, lk, hcd⟩ := F.ex
  refine fn_g lk hcd S hlen fun B out t H vs Q E room gd wish => ?_
  obtain ⟨r, hr, q⟩ := hb cdv B out t H vs Q E room gd wish
  exact ⟨r, hr.nox, q⟩
end
section
variable {X : Cx} {Z : CXT} {k : Nat} {f : Addr} {fd : FuncData} {ps : List Str} {sp : Sp} {dvs : List V} {ds : List Value} {E : XK}
    {x : Str} {p pos : Pos} {e : Expr} {es : List Expr} {t : TA}
/-- f(e, ..) of such a def -/
theorem pe_callG (F : FnG X.prog X.w X.K X.mg X.base Z k f fd ps sp) (room : Room k X.A) (gd : X.A.guards = some [])
    (hg : Gl X x) (hm : X.mg x = some (.ref f)) (hk : PySem.W.keepIn X.K (.ref f) = true) (hb : Binds X.K fd ps ds)
    (hd : Vals dvs ds) (hx : Passes Z X E) (ha : PA X (e :: es) t) (hdb : (x == ("__debug__" : Str)) = false := by decide)
    (he : starEach (e :: es) X.env = (false, eval e X.env) :: starEach es X.env := by rfl)
    (hpl : (backTo pos (starEach es X.env)).any (·.1) = false := by rfl) :
    PE X (.Call (.Name x p) (e :: es) [] pos) (tCall sp dvs E t) := by
  refine ⟨fun pins s σ H Q I h => wpAny_Call_Name_kw (ld_glob I hg hm ?_ hdb)⟩
  refine PySem.W.callWith_K (h₀ := X.base) I.ok.mod.kin hk
    (thn (ha.run pos pins s σ H _ I h) fun us s1 ⟨vs, H1, I1, rel, wish⟩ => ⟨I1.kIn, ?_⟩) he hpl
  have rel2 : Vals (vs ++ dvs) (us ++ ds) := rel.append hd
  have size : (us ++ ds).length = ps.length := by rw [← rel2.length]; exact F.many _ _ _ _ wish
  refine wpAny_call (codeAny_mono (F.does X.A X.stack s1 H1 ⟨us, []⟩ _ _ Q E room gd I1.env0 (hb s1 us I1.kIn size) rel2 wish)
    fun r s' hq => ?_)
  cases r with
  | error ex => exact hx pins σ H1 s1 ex s' I1 hq
  | ok fl =>
    cases fl with
    | ret u => exact I1.after hq
    | next => exact False.elim hq
    | brk => exact False.elim hq
    | cont => exact False.elim hq
/-- repr of data -/
def rReprD (K : PySem.W.Frag) : List V → Hp → VK → Prop := fun xs H Q => ∃ (v : V) (d : PyData), xs = [v] ∧ Dp K H v d ∧
  d.showable = true ∧ d.hasDict = false ∧ d.depth + 1 ≤ 64 ∧ d.shown.length ≤ sizeLine ∧ (∀ i, d = .int i → i.natAbs.log2 < 1920) ∧ Q (.str d.shown) H
theorem call_reprD (hu : X.A.units + 64 < cLine) (gd : X.A.guards = some []) : CallR X (.builtin "repr") (rReprD X.K) := by
  intro pins s σ H xs us Q I r h
  obtain ⟨v, d, rfl, dp, sh, hd, dep, sz, hi, q⟩ := h
  obtain ⟨u, rfl, ru⟩ := vals1 r
  cases dp with
  | non =>
    have ru' : u = Value.none := ru
    subst ru'
    exact PySem.P.repr_of_none ⟨.str _, H, I.tok _, ⟨_, rfl⟩, q⟩
  | bl b =>
    have ru' : u = Value.bool b := ru
    subst ru'
    exact PySem.P.repr_of_bool ⟨.str _, H, I.tok _, ⟨_, rfl⟩, q⟩
  | int i =>
    obtain ⟨t, rfl⟩ := ru
    exact PySem.P.repr_of_int (hi i rfl) ⟨.str _, H, I.tok _, ⟨_, rfl⟩, q⟩
  | str z =>
    obtain ⟨t, rfl⟩ := ru
    exact PySem.P.repr_of_str ⟨.str _, H, I.tok _, ⟨_, rfl⟩, q⟩ sz
  | lst hs ha =>
    rename_i a ys ds
    have ru' : u = Value.ref a := ru
    subst ru'
    obtain ⟨as, rd⟩ := Dp.reads I (PyData.list ds) (.ref a) (.ref a) (Dp.lst hs ha) rfl
    exact PySem.repr_of_reads' rd sh (fun z => by rw [hd] at z; cases z) gd (by omega) (fun b o e => e)
      (fun h' w tk keep => ⟨.str _, H, I.kept keep, ⟨_, rfl⟩, q⟩) sz
  | tup hs ha =>
    rename_i a ys ds
    have ru' : u = Value.ref a := ru
    subst ru'
    obtain ⟨as, rd⟩ := Dp.reads I (PyData.tuple ds) (.ref a) (.ref a) (Dp.tup hs ha) rfl
    exact PySem.repr_of_reads' rd sh (fun z => by rw [hd] at z; cases z) gd (by omega) (fun b o e => e)
      (fun h' w tk keep => ⟨.str _, H, I.kept keep, ⟨_, rfl⟩, q⟩) sz
/-! ### powers of greater bases -/
def CPowW (i j : Int) : Prop := 0 ≤ j ∧ (Builtin.Int.intBits i : Int) * j ≤ 2 ^ 27
theorem op_powW : OpR X (binaryOp .Pow) (rI CPowW fun i j => .int (i ^ j.toNat)) :=
  opI fun _ _ _ _ _ _ _ hc q => PyProof.Rows.pow_int hc.1 hc.2 q
/-! ### // by any divisor below 2 ^ 9000 -/
def CDivA (_ j : Int) : Prop := j ≠ 0 ∧ j.natAbs.log2 < 9000
theorem op_fdivA : OpR X (binaryOp .FloorDiv) (rI CDivA fun i j => .int (i.fdiv j)) :=
  opI fun _ _ _ _ _ _ _ hc q => PyProof.Rows.floordiv_int hc.1 q (.inl (PyProof.noPylong_of_log2 hc.2))
end
end My

set_option maxHeartbeats 2000000
namespace My
open PySem PySem.Spec PyProof.Rows L2 PySem.W
/-- the law's own call, from a def that knows that no repr is under way -/
theorem law_g {P : Program} {w : World} {K : PySem.W.Frag} {mg mb : Str → Option Value} {k : Nat} {fa a : Addr} {fd : FuncData}
    {x : Str} {sp : Sp} {t : Shared} {vs : List Value} {ns : List Int} (inK : K.In t.heap) (names : t.heap.Ns mainGlobals mg)
    (own : t.heap.Ns builtinsNs mb) (boot : ∀ x : Str, x ≠ "__name__" → mb x = bootBuiltins x) (noLim : t.heap.NoLimit)
    (noGen : t.gens = #[]) (ob : t.heap.get? a = some { cls := .type "list", data := .seq vs.toArray }) (hints : IntsAre vs ns)
    (short : ns.length ≤ sizeLine) (room : Room k callerA)
    (F : ∀ base : Heap, K.In base → base.Ns mainGlobals mg → FnG P w K mg base CX0 k fa fd [x] sp)
    (bnd : ∀ (s : Shared) (u : Value), BindsTo s fd ⟨[u], []⟩ [(x, u)])
    (wish : ∀ H : Hp, Only H → SqL K H a (ns.map V.int) → sp [.ref a] H (fun v _ => v = .bl true) fun _ _ _ => False) :
    codeAny (model P w) callerA (.call (.ref fa) ⟨[.ref a], []⟩)
      (fun r s' => r = .ok (.ret (.bool true)) ∧ OldK t.heap s'.heap ∧ s'.os = t.os ∧ AllBare s'.gens) t := by
  have rel := vals_ints hints
  have size := hints.length
  have main : ∀ H : Hp, Only H → SqL K H a (ns.map V.int) → HOk P w H t.heap → (∀ b, H b ≠ none → b = a) →
      (H a ≠ none → K.lookup a = none) → codeAny (model P w) callerA (.call (.ref fa) ⟨[.ref a], []⟩)
      (fun r s' => r = .ok (.ret (.bool true)) ∧ OldK t.heap s'.heap ∧ s'.os = t.os ∧ AllBare s'.gens) t := by
    intro H only seq hok one apart
    have back : ∀ {b : Addr} {o : Obj}, t.heap.get? b = some o → H b = none → (hidT t.heap H).get? b = some o :=
      fun e n => hidT_get e n
    have notA : ∀ {b : Addr} {o : Obj} {es : Array DictEntry} {ep : Nat}, t.heap.get? b = some o → o.data = .dict es ep → H b = none := by
      intro b o es ep e d
      cases q : H b with
      | none => rfl
      | some u =>
        obtain rfl : b = a := one b (by rw [q]; simp)
        rw [ob] at e
        cases e
        have d' : Data.seq vs.toArray _ = Data.dict es ep := d
        cases d'
    have spaces : ∀ {b : Addr} {m : Str → Option Value}, t.heap.Ns b m → (hidT t.heap H).Ns b m := by
      rintro b m ⟨o, es, ep, e, d, r⟩
      exact ⟨o, es, ep, back e (notA e d), d, r⟩
    have inB : K.In (hidT t.heap H) := fun b o e => back (inK b o e) (by
      cases q : H b with
      | none => rfl
      | some u =>
        obtain rfl : b = a := one b (by rw [q]; simp)
        rw [apart (by rw [q]; simp)] at e
        cases e)
    have module : Mod K mg (hidT t.heap H) :=
      ⟨inB, spaces names, ⟨mb, spaces own, boot⟩, let ⟨mc, h1, h2⟩ := noLim; ⟨mc, spaces h1, h2⟩⟩
    have e0 : Env0 P w K mg (hidT t.heap H) callerA [] t H :=
      ⟨rfl, module, fun b o e => of_hidT e, Nat.le_of_eq (hidT_size _ _), trivial,
        fun b hb => absurd (show b ∈ ([] : List Addr) from hb) (by simp), hok, .of_eq noGen⟩
    refine codeAny_mono ((F _ inB (spaces names)).does callerA [] t H ⟨[.ref a], []⟩ [.ref a] [.ref a] _ _ room rfl e0
      (bnd t (.ref a)) (.cons rfl .nil) (wish H only seq)) fun r s' h => ?_
    cases r with
    | error e => exact False.elim h
    | ok fl =>
      cases fl with
      | next => exact False.elim h
      | brk => exact False.elim h
      | cont => exact False.elim h
      | ret u =>
        obtain ⟨v, H', os, bare, un, hok', r', q⟩ := h
        obtain rfl : v = .bl true := q
        obtain rfl : u = Value.bool true := r'
        refine ⟨rfl, OldK.of_keep fun b o e => ?_, os, bare⟩
        cases q : H b with
        | none => exact un.keep b o e q (by intro z; exact absurd (show b ∈ ([] : List Addr) from z) (by simp)) (by simp)
        | some u =>
          rcases only b with z | ⟨ob', xs, z⟩
          · rw [q] at z
            cases z
          · have z2 := un.frzs b ob' _ z
            obtain ⟨e1, _⟩ := hok b _ z
            obtain ⟨e2, _⟩ := hok' b _ z2
            rw [e] at e1
            cases e1
            exact e2
  cases hk : K.lookup a with
  | some o =>
    have e := inK a o hk
    rw [ob] at e
    cases e
    refine main (fun _ => none) (fun _ => .inl rfl)
      (.inr ⟨_, vs.toArray, _, hk, rfl, rfl, rfl, by rw [List.size_toArray, size]; exact short, by simpa using rel⟩)
      (fun b u z => by have z' : (none : Option HO) = some u := z; cases z') (fun b z => absurd rfl z) fun z => absurd rfl z
  | none =>
    refine main (fun b => if b = a then some (.frz { cls := .type "list", data := .seq vs.toArray } (.lst (ns.map V.int))) else none)
      (fun b => ?_) (.inl (.inr ⟨_, if_pos rfl⟩)) (fun b u z => ?_) (fun b z => ?_) fun _ => hk
    · by_cases hb : b = a
      · exact .inr ⟨_, _, if_pos hb⟩
      · exact .inl (if_neg hb)
    · by_cases hb : b = a
      · have z' := (if_pos hb).symm.trans z
        cases z'
        subst hb
        exact ⟨ob, by rw [List.length_map]; exact short, vs, _, rel, ob⟩
      · have z' := (if_neg hb).symm.trans z
        cases z'
    · by_cases hb : b = a
      · exact hb
      · exact absurd (if_neg hb) z
/-- the end of a law's row -/
theorem walk_g {l : PySem.W.OpenLaw} {n k : Nat} {q : Program} {loose : List Str} {XP : (Str → Option Value) → Heap → Prop}
    {YP : World → Heap → Prop} {d : DefRec} {K : Params → PySem.W.Frag} {sp : PySem.W.Frag → Sp} {x : Str}
    (hn : l.most = some n) (hn2 : n ≤ sizeLine) (hdf : d.params.defaults = []) (room : Room k callerA)
    (hY : ∀ (w : World) (h : Heap), YP w h → (K w.params).In h)
    (F : ∀ (w : World) (mg : Str → Option Value) (fa : Addr) (h : Heap), (K w.params).In h → h.Ns mainGlobals mg →
      mg d.name = some (.ref fa) → ∃ fd : FuncData, (∀ (s : Shared) (u : Value), BindsTo s fd ⟨[u], []⟩ [(x, u)]) ∧
        ∀ base : Heap, (K w.params).In base → base.Ns mainGlobals mg →
          FnG l.prog w (K w.params) mg base CX0 k fa fd [x] (sp (K w.params)))
    (wish : ∀ (K : PySem.W.Frag) (H : Hp) (a : Addr) (ns : List Int), ns.length ≤ n → Only H → SqL K H a (ns.map V.int) →
      sp K [.ref a] H (fun v _ => v = .bl true) fun _ _ _ => False) :
    PySem.W.WalkO q loose XP YP l.row.toRowW d [] (fun f vs => PySem.call f vs) := by
  refine Att.attach_call hn hdf fun w s₀ t mg mb fa o pm cd doc a vs ns G Y ho hd hcd hmg hobj hints hlen hg => ?_
  have inK := hY w _ Y
  obtain ⟨fd, hb, hF⟩ := F w mg fa _ inK G.T.g hmg
  exact law_g inK G.T.g G.T.b G.T.builtins G.T.nolimit hg hobj hints (Nat.le_trans hlen hn2) room hF hb
    fun H hO hS => wish _ H a ns hlen hO hS
end My

set_option maxHeartbeats 2000000
namespace My
open PySem PySem.Spec PyProof.Rows L2
/-! ### data: what a value is, with the empty dict too -/
mutual
inductive Jd (K : PySem.W.Frag) (H : Hp) : V → PyData → Prop
  | non : Jd K H .non .none
  | bl (b : Bool) : Jd K H (.bl b) (.bool b)
  | int (i : Int) : Jd K H (.int i) (.int i)
  | str (x : Str) : Jd K H (.str x) (.str x)
  | lst {a : Addr} {xs : List V} {ds : List PyData} : SqL K H a xs → JdAll K H xs ds → Jd K H (.ref a) (.list ds)
  | tup {a : Addr} {xs : List V} {ds : List PyData} : SqT K H a xs → JdAll K H xs ds → Jd K H (.ref a) (.tuple ds)
  | dct {a : Addr} : H a = some (.dK []) → Jd K H (.ref a) (.dict [])
inductive JdAll (K : PySem.W.Frag) (H : Hp) : List V → List PyData → Prop
  | nil : JdAll K H [] []
  | cons {v : V} {vs : List V} {d : PyData} {ds : List PyData} : Jd K H v d → JdAll K H vs ds → JdAll K H (v :: vs) (d :: ds)
end
section
variable {K : PySem.W.Frag} {H H' : Hp}
theorem same_l {a : Addr} {xs : List V} (e : Same H H') (h : SqL K H a xs) : SqL K H' a xs := Evl.ex_l e h
theorem same_t {a : Addr} {xs : List V} (e : Same H H') (h : SqT K H a xs) : SqT K H' a xs := Evl.ex_t e h
mutual
theorem Jd.mono (e : Same H H') : ∀ (d : PyData) (v : V), Jd K H v d → Jd K H' v d
  | .none, _, h => by cases h; exact .non
  | .bool b, _, h => by cases h; exact .bl b
  | .int i, _, h => by cases h; exact .int i
  | .str x, _, h => by cases h; exact .str x
  | .list ds, _, h => by cases h with | lst s a => exact .lst (same_l e s) (JdAll.mono e ds _ a)
  | .tuple ds, _, h => by cases h with | tup s a => exact .tup (same_t e s) (JdAll.mono e ds _ a)
  | .dict _, _, h => by cases h with | dct s => exact .dct (e _ _ s)
theorem JdAll.mono (e : Same H H') : ∀ (ds : List PyData) (vs : List V), JdAll K H vs ds → JdAll K H' vs ds
  | [], _, h => by cases h; exact .nil
  | d :: ds, _, h => by cases h with | cons a b => exact .cons (Jd.mono e d _ a) (JdAll.mono e ds _ b)
end
def tyD : PyData → String
  | .none => "NoneType" | .bool _ => "bool" | .int _ => "int" | .str _ => "str" | .list _ => "list" | .tuple _ => "tuple" | .dict _ => "dict"
theorem tyx_l {a : Addr} {xs : List V} (h : SqL K H a xs) : TyX K H (.ref a) (.type "list") := by
  rcases h with (h | ⟨o, h⟩) | ⟨o, its, n, hl, hc, _⟩
  · exact .base (.lst h)
  · exact .base (.frz h)
  · exact .kList hl hc
theorem tyx_t {a : Addr} {xs : List V} (h : SqT K H a xs) : TyX K H (.ref a) (.type "tuple") := by
  rcases h with (h | ⟨o, h⟩) | ⟨o, its, n, hl, hc, _⟩
  · exact .base (.tup h)
  · exact .fTuple h
  · exact .kTuple hl hc
theorem Jd.ty {v : V} {d : PyData} (h : Jd K H v d) : TyX K H v (.type (tyD d)) := by
  cases h with
  | non => exact .base .non
  | bl b => exact .base (.bl b)
  | int i => exact .base (.int i)
  | str x => exact .base (.str x)
  | lst s a => exact tyx_l s
  | tup s a => exact tyx_t s
  | dct s => exact .base (.dK s)
/-! no dict within -/
mutual
def flatD : PyData → Bool
  | .list ds => flatDs ds
  | .tuple ds => flatDs ds
  | .dict _ => false
  | _ => true
def flatDs : List PyData → Bool
  | [] => true
  | d :: ds => flatD d && flatDs ds
end
mutual
theorem Jd.dp : ∀ (d : PyData) (v : V), flatD d = true → Jd K H v d → Dp K H v d
  | .none, _, _, h => by cases h; exact .non
  | .bool b, _, _, h => by cases h; exact .bl b
  | .int i, _, _, h => by cases h; exact .int i
  | .str x, _, _, h => by cases h; exact .str x
  | .list ds, _, f, h => by cases h with | lst s a => exact .lst s (JdAll.dp ds _ (by simpa [flatD] using f) a)
  | .tuple ds, _, f, h => by cases h with | tup s a => exact .tup s (JdAll.dp ds _ (by simpa [flatD] using f) a)
  | .dict _, _, f, h => by simp [flatD] at f
theorem JdAll.dp : ∀ (ds : List PyData) (vs : List V), flatDs ds = true → JdAll K H vs ds → DpAll K H vs ds
  | [], _, _, h => by cases h; exact .nil
  | d :: ds, _, f, h => by
    cases h with
    | cons a b =>
      simp only [flatDs, Bool.and_eq_true] at f
      exact .cons (Jd.dp d _ f.1 a) (JdAll.dp ds _ f.2 b)
end
theorem JdAll.length : ∀ {vs : List V} {ds : List PyData}, JdAll K H vs ds → vs.length = ds.length
  | _, _, .nil => rfl
  | _, _, .cons _ t => by simp [JdAll.length t]
theorem JdAll.get : ∀ {vs : List V} {ds : List PyData} {i : Nat} {v : V}, JdAll K H vs ds → vs[i]? = some v → ∃ d, ds[i]? = some d ∧ Jd K H v d
  | _, _, _, _, .nil, h => by simp at h
  | _, _, 0, _, .cons a _, h => by simp at h; subst h; exact ⟨_, rfl, a⟩
  | _, _, i + 1, _, .cons _ t, h => by
    obtain ⟨d, h1, h2⟩ := JdAll.get (i := i) t (by simpa using h)
    exact ⟨d, by simpa using h1, h2⟩
theorem JdAll.append : ∀ {vs ws : List V} {ds es : List PyData}, JdAll K H vs ds → JdAll K H ws es → JdAll K H (vs ++ ws) (ds ++ es)
  | _, _, _, _, .nil, h => h
  | _, _, _, _, .cons a t, h => .cons a (JdAll.append t h)
theorem jd_ints : ∀ ns : List Int, JdAll K H (ns.map V.int) (ns.map PyData.int)
  | [] => .nil
  | n :: ns => .cons (.int n) (jd_ints ns)
/-! ### expressions that make data, leaving all that is known -/
def MkD (K : PySem.W.Frag) (te : TE) (σ : St) (H : Hp) (d : PyData) : Prop :=
  ∀ H1, Same H H1 → ∀ Q : VK, (∀ v H2, Same H1 H2 → Jd K H2 v d → Q v H2) → te σ H1 Q
def MkA (K : PySem.W.Frag) (ta : TA) (σ : St) (H : Hp) (ds : List PyData) : Prop :=
  ∀ H1, Same H H1 → ∀ Q : List V → Hp → Prop, (∀ vs H2, Same H1 H2 → JdAll K H2 vs ds → Q vs H2) → ta σ H1 Q
variable {σ : St} {te ta tb : TE} {tA : TA} {d : PyData} {ds : List PyData}
theorem mk_var {i : Nat} {v : V} (h : σ[i]? = some (some v)) (j : Jd K H v d) : MkD K (tVar i) σ H d :=
  fun H1 e Q q => ⟨v, h, q v H1 (Same.refl _) (Jd.mono e d v j)⟩
theorem mk_c {v : V} (j : ∀ H, Jd K H v d) : MkD K (tC v) σ H d := fun H1 _ Q q => q v H1 (Same.refl _) (j H1)
theorem mk_int {i : Int} : MkD K (tC (.int i)) σ H (.int i) := mk_c fun _ => .int i
theorem mk_bool {b : Bool} : MkD K (tC (.bl b)) σ H (.bool b) := mk_c fun _ => .bl b
theorem mk_non : MkD K (tC .non) σ H .none := mk_c fun _ => .non
theorem mk_str {x : Str} : MkD K (tC (.str x)) σ H (.str x) := mk_c fun _ => .str x
theorem mka_nil : MkA K tNil σ H [] := fun H1 _ Q q => q [] H1 (Same.refl _) .nil
theorem mka_cons (h : MkD K te σ H d) (r : MkA K tA σ H ds) : MkA K (tCons te tA) σ H (d :: ds) := fun H1 e Q q =>
  h H1 e _ fun v H2 e2 j => r H2 (e.trans e2) _ fun vs H3 e3 js => q _ H3 (e2.trans e3) (.cons (Jd.mono e3 d v j) js)
theorem same_new {p : Addr} {o : HO} (h : H p = none) : Same H (upd H p o) := fun b u e => by
  rw [upd_ne (ne_of_none e h)]
  exact e
theorem mk_tup (h : MkA K tA σ H ds) (z : ds.length ≤ 100000) : MkD K (tTup tA) σ H (.tuple ds) := fun H1 e Q q =>
  h H1 e _ fun vs H2 e2 js => ⟨by rw [js.length]; exact Evl.sz_of z, fun p hp => q _ _ (e2.trans (same_new hp))
    (.tup (Or.inl (Or.inl upd_same)) (JdAll.mono (same_new hp) _ _ js))⟩
theorem mk_lst (h : MkA K tA σ H ds) (z : ds.length ≤ 100000) : MkD K (tLst tA) σ H (.list ds) := fun H1 e Q q =>
  h H1 e _ fun vs H2 e2 js => ⟨by rw [js.length]; exact Evl.sz_of z, fun p hp => q _ _ (e2.trans (same_new hp))
    (.lst (Or.inl (Or.inl upd_same)) (JdAll.mono (same_new hp) _ _ js))⟩
theorem mk_op {C : Int → Int → Prop} {g : Int → Int → Int} {i j : Int} (ha : MkD K ta σ H (.int i)) (hb : MkD K tb σ H (.int j)) (hc : C i j) :
    MkD K (tOp (rI C fun i j => .int (g i j)) ta tb) σ H (.int (g i j)) := fun H1 e Q q =>
  ha H1 e _ fun v H2 e2 jv => hb H2 (e.trans e2) _ fun w H3 e3 jw => by
    cases jv
    cases jw
    exact ⟨i, j, rfl, rfl, hc, q _ H3 (e2.trans e3) (.int _)⟩
theorem mk_op0 {g : Int → Int → Int} {i j : Int} (ha : MkD K ta σ H (.int i)) (hb : MkD K tb σ H (.int j)) :
    MkD K (tOp (rI0 fun i j => .int (g i j)) ta tb) σ H (.int (g i j)) := fun H1 e Q q =>
  ha H1 e _ fun v H2 e2 jv => hb H2 (e.trans e2) _ fun w H3 e3 jw => by
    cases jv
    cases jw
    exact ⟨i, j, rfl, rfl, q _ H3 (e2.trans e3) (.int _)⟩
theorem mk_neg {i : Int} (ha : MkD K ta σ H (.int i)) : MkD K (tUn (rU fun i => .int (-i)) ta) σ H (.int (-i)) := fun H1 e Q q =>
  ha H1 e _ fun v H2 e2 jv => by
    cases jv
    exact ⟨i, rfl, q _ H2 e2 (.int _)⟩
theorem MkD.now {Q : VK} (h : MkD K te σ H d) (q : ∀ v H2, Same H H2 → Jd K H2 v d → Q v H2) : te σ H Q := h H (Same.refl _) Q q
theorem if_pos_of {c : Bool} {A B : Prop} (hc : c = true) (h : A) : if c = true then A else B := by
  rw [if_pos hc]
  exact h
theorem if_neg_of {c : Bool} {A B : Prop} (hc : c = false) (h : B) : if c = true then A else B := by
  rw [hc, if_neg Bool.false_ne_true]
  exact h
/-! ### isinstance of data -/
def isT (d : PyData) (n : String) : Option Bool := kitB (tyD d) n
theorem isi_of {v : V} {d : PyData} {n : String} {b : Bool} {Q : VK} (j : Jd K H v d) (e : kitB (tyD d) n = some b) (q : Q (.bl b) H) :
    rIsi K [v, .ty n] H Q := ⟨v, .ty n, _, _, b, rfl, .ty n, j.ty, kit_ty e, q⟩
end
/-! ### a drawer of numbers: a list of three -/
def Bag (H : Hp) (b : Addr) : Prop := ∃ x y z : Int, H b = some (.lst [.int x, .int y, .int z]) ∧ 0 ≤ x ∧ 0 ≤ y ∧ y < 2305843009213693951
/-- all but the drawer stays -/
def But (b : Addr) (H H' : Hp) : Prop := ∀ a o, H a = some o → a ≠ b → H' a = some o
theorem But.refl (b : Addr) (H : Hp) : But b H H := fun _ _ h _ => h
theorem But.trans {b : Addr} {H H1 H2 : Hp} (x : But b H H1) (y : But b H1 H2) : But b H H2 := fun a o h n => y a o (x a o h n) n
theorem But.of {b : Addr} {H H' : Hp} (e : Same H H') : But b H H' := fun a o h _ => e a o h
theorem But.put {b : Addr} {H : Hp} {o : HO} : But b H (upd H b o) := fun a u h n => by rw [upd_ne n]; exact h
theorem But.l {K : PySem.W.Frag} {b a : Addr} {H H' : Hp} {xs : List V} (e : But b H H') (n : a ≠ b) (h : SqL K H a xs) : SqL K H' a xs := by
  rcases h with (h | ⟨o, h⟩) | h
  · exact Or.inl (Or.inl (e a _ h n))
  · exact Or.inl (Or.inr ⟨o, e a _ h n⟩)
  · exact Or.inr h
theorem But.t {K : PySem.W.Frag} {b a : Addr} {H H' : Hp} {xs : List V} (e : But b H H') (bag : Bag H b) (h : SqT K H a xs) : SqT K H' a xs := by
  obtain ⟨x, y, z, hb, _⟩ := bag
  rcases h with (h | ⟨o, h⟩) | h
  · exact Or.inl (Or.inl (e a _ h (ne_of h hb (by intro q; cases q))))
  · exact Or.inl (Or.inr ⟨o, e a _ h (ne_of h hb (by intro q; cases q))⟩)
  · exact Or.inr h
theorem Bag.same {H H' : Hp} {b : Addr} (e : Same H H') (h : Bag H b) : Bag H' b := by
  obtain ⟨x, y, z, hb, r⟩ := h
  exact ⟨x, y, z, e _ _ hb, r⟩
theorem Bag.ne {H : Hp} {b a : Addr} (h : Bag H b) (n : H a = none) : a ≠ b := by
  obtain ⟨x, y, z, hb, r⟩ := h
  exact (ne_of_none hb n).symm
end My

set_option maxHeartbeats 2000000
namespace My
open PySem PySem.Spec PyProof.Rows L2
section
variable {K : PySem.W.Frag} {σ : St} {H : Hp} {te t0 : TE} {vs : List Nat} {i : Nat} {Q : VK}
theorem take_next {α : Type} {l : List α} {k : Nat} {y : α} (h : l[k]? = some y) : l.take (k + 1) = l.take k ++ [y] := by
  rw [List.take_succ, h]
  rfl
theorem yes_of {σ : St} {H : Hp} {A B : Hp → Prop} (h : A H) : tYes σ H (fun b H3 => if b = true then A H3 else B H3) := by
  unfold tYes
  exact iteT h
/-- [e for x in t], each e a known value, all that is known stays -/
theorem comp_t {a : Addr} {xs : List V} (ys : List V) (hl : ys.length = xs.length) (hz : xs.length < 100000) (hT : SqT K H a xs)
    (hw : ∀ x, wipe ((wipe σ vs).set i (some x)) vs = wipe σ vs)
    (hel : ∀ (k : Nat) x y H1, xs[k]? = some x → ys[k]? = some y → Same H H1 → ∀ Q' : VK, (∀ H2, Same H1 H2 → Q' y H2) → te ((wipe σ vs).set i (some x)) H1 Q')
    (q : ∀ D H', Same H H' → H D = none → H' D = some (.lst ys) → Q (.ref D) H') (h0 : ∀ Q' : VK, Q' (.ref a) H → t0 σ H Q') :
    tLc (iTup K t0) (gName i) tYes te vs σ H Q := by
  refine h0 _ ⟨a, rfl, ⟨_, hT⟩, fun D hD => ?_⟩
  refine lc_tup (K := K) (a := a) (xs := xs) (fun k H' => Same H H' ∧ H' D = some (.lst (ys.take k))) ⟨same_new hD, upd_same⟩ (fun k H' _ h => same_t h.1 hT) ?_ ?_
  · rintro k x H1 hx ⟨e1, hL⟩
    have hk : k < xs.length := (List.getElem?_eq_some_iff.mp hx).1
    obtain ⟨y, hy⟩ : ∃ y, ys[k]? = some y := ⟨_, List.getElem?_eq_getElem (by omega)⟩
    refine ⟨hw x, ?_⟩
    refine yes_of (hel k x y H1 hx hy e1 _ fun H2 e2 => ⟨_, e2 _ _ hL, ?_, ?_, ?_⟩)
    · rw [List.length_take]
      exact Evl.sz_lt (by omega)
    · intro b u e
      rw [upd_ne (ne_of_none e hD)]
      exact e2 _ _ (e1 _ _ e)
    · rw [upd_same, take_next hy]
  · rintro H1 ⟨e1, hL⟩
    rw [← hl, List.take_length] at hL
    exact q D H1 e1 hD hL
theorem comp_l {a : Addr} {xs : List V} (ys : List V) (hl : ys.length = xs.length) (hz : xs.length < 100000) (hT : SqL K H a xs)
    (hw : ∀ x, wipe ((wipe σ vs).set i (some x)) vs = wipe σ vs)
    (hel : ∀ (k : Nat) x y H1, xs[k]? = some x → ys[k]? = some y → Same H H1 → ∀ Q' : VK, (∀ H2, Same H1 H2 → Q' y H2) → te ((wipe σ vs).set i (some x)) H1 Q')
    (q : ∀ D H', Same H H' → H D = none → H' D = some (.lst ys) → Q (.ref D) H') (h0 : ∀ Q' : VK, Q' (.ref a) H → t0 σ H Q') :
    tLc (iList K t0) (gName i) tYes te vs σ H Q := by
  refine h0 _ ⟨a, rfl, ⟨_, hT⟩, fun D hD => ?_⟩
  refine lc_list (K := K) (a := a) (xs := xs) (fun k H' => Same H H' ∧ H' D = some (.lst (ys.take k))) ⟨same_new hD, upd_same⟩ (fun k H' _ h => same_l h.1 hT) ?_ ?_
  · rintro k x H1 hx ⟨e1, hL⟩
    have hk : k < xs.length := (List.getElem?_eq_some_iff.mp hx).1
    obtain ⟨y, hy⟩ : ∃ y, ys[k]? = some y := ⟨_, List.getElem?_eq_getElem (by omega)⟩
    refine ⟨hw x, ?_⟩
    refine yes_of (hel k x y H1 hx hy e1 _ fun H2 e2 => ⟨_, e2 _ _ hL, ?_, ?_, ?_⟩)
    · rw [List.length_take]
      exact Evl.sz_lt (by omega)
    · intro b u e
      rw [upd_ne (ne_of_none e hD)]
      exact e2 _ _ (e1 _ _ e)
    · rw [upd_same, take_next hy]
  · rintro H1 ⟨e1, hL⟩
    rw [← hl, List.take_length] at hL
    exact q D H1 e1 hD hL
/-- [e for k in range(n)], the drawer turned by each e: what is made keeps Pv -/
theorem comp_b {b : Addr} {n : Nat} (hz : n < 100000) (bag : Bag H b) (Ok : V → Prop) (lo : Int)
    (hw : ∀ x, wipe ((wipe σ vs).set i (some x)) vs = wipe σ vs)
    (hel : ∀ (k : Nat) H1, k < n → But b H H1 → Bag H1 b → ∀ Q' : VK, (∀ y H2, Ok y → But b H1 H2 → Bag H2 b → Q' y H2) → te ((wipe σ vs).set i (some (.int (lo + k)))) H1 Q')
    (q : ∀ D ys H', But b H H' → Bag H' b → D ≠ b → H D = none → ys.length = n → (∀ y ∈ ys, Ok y) → H' D = some (.lst ys) → Q (.ref D) H') :
    ∀ D, H D = none → ∃ W : Nat → Nat → Hp → Prop, (∃ m, W 0 m (upd H D (.lst []))) ∧ ∀ k m H1, W k m H1 →
      ((Itr lo n).stop k H1 ∧ Q (.ref D) H1) ∨ ((Itr lo n).go k H1 ∧ ∃ Nx : Hp → Prop, (∀ H', Nx H' → ∃ m', m' < m ∧ W (k + 1) m' H') ∧
        ∀ x H', (Itr lo n).yld k H1 x H' → gName i x (wipe σ vs) H' fun σ2 H2 => wipe σ2 vs = wipe σ vs ∧ tYes σ2 H2 fun b H3 =>
          if b = true then te σ2 H3 fun y H4 => ∃ acc, H4 D = some (.lst acc) ∧ acc.length < sizeLine ∧ Nx (upd H4 D (.lst (acc ++ [y]))) else Nx H3) := by
  intro D hD
  have hDb : D ≠ b := bag.ne hD
  refine lc_range (lo := lo) (n := n) (fun k H' => But b H H' ∧ Bag H' b ∧ ∃ ys : List V, ys.length = k ∧ (∀ y ∈ ys, Ok y) ∧ H' D = some (.lst ys))
    ⟨But.of (same_new hD), bag.same (same_new hD), [], rfl, fun y h => absurd h List.not_mem_nil, upd_same⟩ ?_ ?_
  · rintro k H1 hk ⟨e1, b1, ys, hy, ok, hL⟩
    refine ⟨hw _, ?_⟩
    refine yes_of (hel k H1 hk e1 b1 _ fun y H2 oy e2 b2 => ⟨ys, e2 _ _ hL hDb, Evl.sz_lt (by omega), ?_, ?_, ys ++ [y], ?_, ?_, upd_same⟩)
    · intro c u e n
      rw [upd_ne (ne_of_none e hD)]
      exact e2 _ _ (e1 _ _ e n) n
    · obtain ⟨x, y', z, hb, r⟩ := b2
      exact ⟨x, y', z, by rw [upd_ne (Ne.symm hDb)]; exact hb, r⟩
    · rw [List.length_append, hy]
      rfl
    · intro z hz'
      rcases List.mem_append.mp hz' with h | h
      · exact ok z h
      · rw [List.mem_singleton.mp h]
        exact oy
  · rintro H1 ⟨e1, b1, ys, hy, ok, hL⟩
    exact q D ys H1 e1 b1 hDb hD hy ok hL
/-- [e for k in range(m)], the drawer turned by each e -/
theorem comp_r {b : Addr} {m : Int} {ta : TA} (h1 : 0 ≤ m) (h2 : m < 100000) (bag : Bag H b) (Ok : V → Prop)
    (hw : ∀ x, wipe ((wipe σ vs).set i (some x)) vs = wipe σ vs)
    (hel : ∀ (k : Nat) H1, (k : Int) < m → But b H H1 → Bag H1 b → ∀ Q' : VK, (∀ y H2, Ok y → But b H1 H2 → Bag H2 b → Q' y H2) → te ((wipe σ vs).set i (some (.int (0 + k)))) H1 Q')
    (q : ∀ D ys H', But b H H' → Bag H' b → D ≠ b → H D = none → (ys.length : Int) = m → (∀ y ∈ ys, Ok y) → H' D = some (.lst ys) → Q (.ref D) H')
    (h0 : ∀ Q' : List V → Hp → Prop, Q' [.int m] H → ta σ H Q') :
    tLc (iRng1 ta) (gName i) tYes te vs σ H Q := by
  refine h0 _ ⟨m, rfl, by omega, by omega, ?_⟩
  refine comp_b (b := b) (n := m.toNat) (by omega) bag Ok 0 hw (fun k H1 hk => hel k H1 (by omega)) fun D ys H' e1 b1 n1 hD hl => q D ys H' e1 b1 n1 hD (by omega)
end
theorem Bag.upd {H : Hp} {b p : Addr} {o : HO} (h : Bag H b) (n : H p = none) : Bag (upd H p o) b := h.same (same_new n)
end My

set_option maxHeartbeats 400000
namespace My
open PySem PySem.Spec PyProof.Rows L2
section
variable {K : PySem.W.Frag} {σ : St} {H : Hp} {te ta tb : TE} {tA : TA} {ds es : List PyData}
def MkL (K : PySem.W.Frag) (te : TE) (σ : St) (H : Hp) (ds : List PyData) : Prop :=
  ∀ H1, Same H H1 → ∀ Q : VK, (∀ p vs H2, Same H1 H2 → H1 p = none → H2 p = some (.lst vs) → JdAll K H2 vs ds → Q (.ref p) H2) → te σ H1 Q
theorem mkl_lst (h : MkA K tA σ H ds) (z : ds.length ≤ 100000) : MkL K (tLst tA) σ H ds := fun H1 e Q q =>
  h H1 e _ fun vs H2 e2 js => ⟨by rw [js.length]; exact Evl.sz_of z, fun p hp => q p vs _ (e2.trans (same_new hp)) (e2.free hp) upd_same (JdAll.mono (same_new hp) _ _ js)⟩
theorem mkl_cat {i : Nat} {p : Addr} {vs : List V} (hv : σ[i]? = some (some (.ref p))) (hp : H p = some (.lst vs)) (j : JdAll K H vs ds) (hb : MkL K tb σ H es)
    (z : ds.length + es.length ≤ 100000) : MkL K (tOp rCat (tVar i) tb) σ H (ds ++ es) := fun H1 e Q q =>
  ⟨_, hv, hb H1 e _ fun r ws H2 e2 hr hw js => ⟨p, r, vs, ws, rfl, rfl, e2 _ _ (e _ _ hp), hw,
    by rw [j.length, js.length]; exact Evl.sz_of z,
    fun u hu => q u _ _ (e2.trans (same_new hu)) (e2.free hu) upd_same
      (JdAll.append (JdAll.mono (e.trans (e2.trans (same_new hu))) _ _ j) (JdAll.mono (same_new hu) _ _ js))⟩⟩
theorem MkL.now {Q : VK} (h : MkL K te σ H ds) (q : ∀ p vs H2, Same H H2 → H p = none → H2 p = some (.lst vs) → JdAll K H2 vs ds → Q (.ref p) H2) : te σ H Q := h H (Same.refl _) Q q
theorem mk_dct : MkD K tDNewK σ H (.dict []) := fun H1 e Q q p hp => q _ _ (same_new hp) (.dct upd_same)
theorem mk_lst' (h : MkL K te σ H ds) : MkD K te σ H (.list ds) := fun H1 e Q q =>
  h H1 e _ fun p vs H2 e2 _ hp js => q _ _ e2 (.lst (Or.inl (Or.inl hp)) js)
theorem st_mkl {i : Nat} {D : Ends} (h : MkL K te σ H ds) (q : ∀ p vs H2, Same H H2 → H p = none → H2 p = some (.lst vs) → JdAll K H2 vs ds → D.nx (σ.set i (some (.ref p))) H2) :
    tAsg te (gName i) D σ H := h H (Same.refl _) _ q
/-! ### the same, what they are left open -/
def MkI (K : PySem.W.Frag) (te : TE) (σ : St) (H : Hp) : Prop := ∃ i, MkD K te σ H (.int i)
def MkX (K : PySem.W.Frag) (te : TE) (σ : St) (H : Hp) : Prop := ∃ d, MkD K te σ H d
def MkXA (K : PySem.W.Frag) (tA : TA) (σ : St) (H : Hp) (n : Nat) : Prop := ∃ ds, MkA K tA σ H ds ∧ ds.length = n
def MkXL (K : PySem.W.Frag) (te : TE) (σ : St) (H : Hp) (n : Nat) : Prop := ∃ ds, MkL K te σ H ds ∧ ds.length = n
theorem mi_int {i : Int} : MkI K (tC (.int i)) σ H := ⟨i, mk_int⟩
theorem mi_var {j : Nat} {i : Int} (h : σ[j]? = some (some (.int i))) : MkI K (tVar j) σ H := ⟨i, mk_var h (.int i)⟩
theorem mi_op0 {g : Int → Int → Int} (ha : MkI K ta σ H) (hb : MkI K tb σ H) : MkI K (tOp (rI0 fun i j => .int (g i j)) ta tb) σ H := by
  obtain ⟨i, ha⟩ := ha
  obtain ⟨j, hb⟩ := hb
  exact ⟨_, mk_op0 ha hb⟩
theorem mi_opc {C : Int → Int → Prop} {g : Int → Int → Int} {i : Int} (hb : MkI K tb σ H) (hc : ∀ j, C i j) : MkI K (tOp (rI C fun i j => .int (g i j)) (tC (.int i)) tb) σ H := by
  obtain ⟨j, hb⟩ := hb
  exact ⟨_, mk_op mk_int hb (hc j)⟩
theorem mi_opk {C : Int → Int → Prop} {g : Int → Int → Int} {i j : Int} (hc : C i j) : MkI K (tOp (rI C fun i j => .int (g i j)) (tC (.int i)) (tC (.int j))) σ H := ⟨_, mk_op mk_int mk_int hc⟩
theorem mi_neg (ha : MkI K ta σ H) : MkI K (tUn (rU fun i => .int (-i)) ta) σ H := by
  obtain ⟨i, ha⟩ := ha
  exact ⟨_, mk_neg ha⟩
theorem MkI.x (h : MkI K te σ H) : MkX K te σ H := let ⟨i, h⟩ := h; ⟨_, h⟩
theorem mx_bool {b : Bool} : MkX K (tC (.bl b)) σ H := ⟨_, mk_bool⟩
theorem mx_non : MkX K (tC .non) σ H := ⟨_, mk_non⟩
theorem mx_str {x : Str} : MkX K (tC (.str x)) σ H := ⟨_, mk_str⟩
theorem mx_dct : MkX K tDNewK σ H := ⟨_, mk_dct⟩
theorem mxa_nil : MkXA K tNil σ H 0 := ⟨[], mka_nil, rfl⟩
theorem mxa_cons {n : Nat} (h : MkX K te σ H) (r : MkXA K tA σ H n) : MkXA K (tCons te tA) σ H (n + 1) := by
  obtain ⟨d, h⟩ := h
  obtain ⟨ds, r, e⟩ := r
  exact ⟨d :: ds, mka_cons h r, by rw [List.length_cons, e]⟩
theorem mx_tup {n : Nat} (h : MkXA K tA σ H n) (z : n ≤ 100000) : MkX K (tTup tA) σ H := by
  obtain ⟨ds, h, e⟩ := h
  exact ⟨_, mk_tup h (by omega)⟩
theorem mx_lst {n : Nat} (h : MkXA K tA σ H n) (z : n ≤ 100000) : MkX K (tLst tA) σ H := by
  obtain ⟨ds, h, e⟩ := h
  exact ⟨_, mk_lst h (by omega)⟩
theorem mxl_lst {n : Nat} (h : MkXA K tA σ H n) (z : n ≤ 100000) : MkXL K (tLst tA) σ H n := by
  obtain ⟨ds, h, e⟩ := h
  exact ⟨_, mkl_lst h (by omega), e⟩
theorem mxl_cat {n : Nat} {i : Nat} {p : Addr} {vs : List V} (hv : σ[i]? = some (some (.ref p))) (hp : H p = some (.lst vs)) (j : JdAll K H vs ds) (hb : MkXL K tb σ H n)
    (z : ds.length + n ≤ 100000) : MkXL K (tOp rCat (tVar i) tb) σ H (ds.length + n) := by
  obtain ⟨es, hb, e⟩ := hb
  exact ⟨_, mkl_cat hv hp j hb (by omega), by rw [List.length_append, e]⟩
theorem st_mkx {n i : Nat} {D : Ends} (h : MkXL K te σ H n) (q : ∀ p vs ds H2, Same H H2 → H p = none → H2 p = some (.lst vs) → JdAll K H2 vs ds → ds.length = n → D.nx (σ.set i (some (.ref p))) H2) :
    tAsg te (gName i) D σ H := by
  obtain ⟨ds, h, e⟩ := h
  exact st_mkl h fun p vs H2 a b c d => q p vs ds H2 a b c d e
end
end My

set_option maxHeartbeats 1000000
namespace My
open PySem PySem.Spec PyProof.Rows L2
theorem tuple_mul0 (l : Addr) (its : Array Value) (m : Nat) (dc : Option Addr) (sl : Array (Option Value)) (u : Tok) (c1 : (its.isEmpty || (0 : Int) == 1) = false) :
    Meets (Builtin.«tuple.__mul__» ⟨[.ref l, .int 0 u], []⟩) (fun _ R s =>
      s.heap.get? l = some { cls := .type "tuple", dict := dc, data := .seq its m, slots := sl } ∧
      R (.ok (.ret (Value.ref s.heap.objs.size))) { s with heap := s.heap.push { cls := Value.type "tuple", data := Data.seq #[] }, toks := s.toks }) :=
  .of_wp fun prog w A R s h => by
    obtain ⟨hp, g, d, tk, os⟩ := s
    obtain ⟨hl, h⟩ := h
    have f1 := AutoSeq1.idx_int
    wp_walk using wpAny_loadPart' hl
    repeat (first
      | (refine wpAny_ite_false (decide_eq_false (by decide)) ?_; wp_walk using wpAny_loadPart' hl)
      | (refine wpAny_ite_false (decide_eq_false (by rw [c1]; exact Bool.false_ne_true)) ?_; wp_walk using wpAny_loadPart' hl)
      | (refine wpAny_ite_true (decide_eq_true (by simp)) ?_; wp_walk using wpAny_loadPart' hl))
    exact ⟨_, rfl, h⟩
/-- a tuple, no times -/
def rRepZ (K : PySem.W.Frag) : R2 := fun x y H Q => ∃ l xs, x = .ref l ∧ y = .int 0 ∧ SqT K H l xs ∧ xs ≠ [] ∧ ∀ p, H p = none → Q (.ref p) (upd H p (.tup []))
def rRepB (K : PySem.W.Frag) : R2 := fun x y H Q => rRepT K x y H Q ∨ rRepZ K x y H Q
section
variable {X : Cx}
theorem op_repZ : OpR X (binaryOp .Mult) (rRepZ X.K) := by
  intro pins s σ H x y v u Q I rx ry h
  obtain ⟨l, xs, rfl, rfl, hT, some1, q⟩ := h
  cases rx
  obtain ⟨t, rfl⟩ := ry
  obtain ⟨its, r, ⟨⟨cls, dc, data, sl⟩, ho, hc, n, hd⟩, hs⟩ := I.tuple hT
  simp only at hc hd
  subst hc hd
  have full : its.toArray.isEmpty = false := by
    cases r with
    | nil => exact absurd rfl some1
    | cons a b => rfl
  have c1 : (its.toArray.isEmpty || (0 : Int) == 1) = false := by rw [full]; rfl
  refine wpAny_binaryOp_repeat_ref (T := "tuple") (U := "int") (by decide) ⟨_, ho, rfl⟩ (fun s' => typeIs_int s' 0 t)
    noFill_tuple_mul F.fills_int_mul F.slot_int_rmul repeat_tuple F.slot_int_index.lookup ?_
  refine call_meets F.slot_int_rmul (typeIs_int s 0 t) F.entry_int_rmul (F.args_int_rmul_2 _ _) (int_rmul_tuple 0 t l its.toArray n dc sl) ⟨ho, rfl, ⟨_, ho, rfl⟩, ?_⟩
  refine call_meets F.slot_tuple_mul ⟨_, ho, rfl⟩ F.entry_tuple_mul (F.args_tuple_mul_2 _ _) (tuple_mul0 l its.toArray n dc sl t c1) ⟨ho, ?_⟩
  refine ⟨.ref s.heap.objs.size, _, I.laid (t' := s.toks) (o := .tup []) (fun b ob q => Heap.get?_push_of_some _ q) (Nat.le_refl _) ?_, rfl,
    q _ (I.hok.fresh (Nat.le_refl _))⟩
  exact ⟨Nat.zero_le _, [], .nil, IsTup.new _ _⟩
theorem op_repB : OpR X (binaryOp .Mult) (rRepB X.K) := by
  intro pins s σ H x y v u Q I rx ry h
  rcases h with h | h
  · exact op_repT pins s σ H x y v u Q I rx ry h
  · exact op_repZ pins s σ H x y v u Q I rx ry h
end
theorem But.none {b : Addr} {H H' : Hp} (e : But b H H') {p : Addr} (n : H' p = none) (bag' : Bag H' b) : H p = none := by
  cases h : H p with
  | none => rfl
  | some o =>
    by_cases hp : p = b
    · subst hp
      obtain ⟨x, y, z, hb, _⟩ := bag'
      rw [hb] at n
      cases n
    · rw [e p o h hp] at n
      cases n
section
variable {K : PySem.W.Frag} {σ : St} {H : Hp} {te t0 : TE} {vs : List Nat} {i : Nat} {Q : VK}
/-- [e for k in range(m)], the drawer turned by m and by each e -/
theorem comp_rb {b : Addr} {ta : TA} (Pm : Int → Prop) (Ok : V → Prop)
    (hw : ∀ x, wipe ((wipe σ vs).set i (some x)) vs = wipe σ vs)
    (hel : ∀ (x : V) H1, But b H H1 → Bag H1 b → ∀ Q' : VK, (∀ y H2, Ok y → But b H1 H2 → Bag H2 b → Q' y H2) → te ((wipe σ vs).set i (some x)) H1 Q')
    (q : ∀ D ys H', But b H H' → Bag H' b → D ≠ b → H D = none → Pm (ys.length : Int) → (∀ y ∈ ys, Ok y) → H' D = some (.lst ys) → Q (.ref D) H')
    (h0 : ∀ Q' : List V → Hp → Prop, (∀ m H2, 0 ≤ m → m < 100000 → Pm m → But b H H2 → Bag H2 b → Q' [.int m] H2) → ta σ H Q') :
    tLc (iRng1 ta) (gName i) tYes te vs σ H Q := by
  refine h0 _ fun m H2 h1 h2 pm e2 b2 => ⟨m, rfl, by omega, by omega, ?_⟩
  refine comp_b (b := b) (n := m.toNat) (by omega) b2 Ok 0 hw (fun k H1 hk e1 b1 => hel _ H1 (e2.trans e1) b1) fun D ys H' e1 b1 n1 hD hl => ?_
  refine q D ys H' (e2.trans e1) b1 n1 (e2.none hD b2) ?_
  have e : (ys.length : Int) = m := by omega
  rw [e]
  exact pm
end
theorem oks_ints {z : Nat} : ∀ ys : List V, (∀ y ∈ ys, ∃ n : Int, y = .int n ∧ n.natAbs ≤ z) → ∃ ns : List Int, ys = ns.map V.int ∧ ∀ n ∈ ns, n.natAbs ≤ z
  | [], _ => ⟨[], rfl, fun _ h => absurd h List.not_mem_nil⟩
  | y :: ys, h => by
    obtain ⟨n, rfl, hn⟩ := h y List.mem_cons_self
    obtain ⟨ns, rfl, hs⟩ := oks_ints ys fun y' hy => h y' (List.mem_cons_of_mem _ hy)
    refine ⟨n :: ns, rfl, fun m hm => ?_⟩
    rcases List.mem_cons.mp hm with h | h
    · rw [h]
      exact hn
    · exact hs m h
theorem rep_zero (k : Nat) : (List.replicate k [V.int 0]).flatten = (List.replicate k (0 : Int)).map V.int := by
  induction k with
  | zero => rfl
  | succ k ih => rw [List.replicate_succ, List.flatten_cons, ih, List.replicate_succ]; rfl
end My

set_option maxHeartbeats 1000000
namespace ZN
open PySem PySem.Spec PyProof.Rows
theorem typeCall_zip (vs : List Value) : checkTypeCall "zip" ⟨vs, []⟩ = pure () := by kernel_rfl
theorem newCall_zip : ∀ vs : List Value, checkBuiltinCall "zip.__new__" ⟨.type "zip" :: vs, []⟩ = pure ()
  | [] => by kernel_rfl
  | _ :: _ => by kernel_rfl
theorem args_init (obj : Value) (vs : List Value) : argsOk "object.__init__" ⟨obj :: vs, []⟩ := by unfold argsOk; kernel_rfl

def refs (n k : Nat) : List Value := (List.range' n k).map .ref
theorem refs_zero (n : Nat) : refs n 0 = [] := rfl
theorem refs_succ (n k : Nat) : refs n (k + 1) = .ref n :: refs (n + 1) k := by simp [refs, List.range'_succ]
theorem refs_length (n k : Nat) : (refs n k).length = k := by simp [refs]
theorem refs_get {n k j : Nat} (h : j < k) : (refs n k)[j]? = some (.ref (n + j)) := by
  simp [refs, List.getElem?_range', h]

def itObj (t : Addr) : Obj := { cls := .type "tuple_iterator", data := .fields #[.ref t, .int 0 0] }
def pushIts : Heap → List Addr → Heap
  | h, [] => h
  | h, t :: ts => pushIts (h.push (itObj t)) ts
theorem pushIts_size : ∀ (ts : List Addr) (h : Heap), (pushIts h ts).objs.size = h.objs.size + ts.length
  | [], h => rfl
  | t :: ts, h => by
    show (pushIts (h.push (itObj t)) ts).objs.size = _
    rw [pushIts_size ts, Heap.size_push, List.length_cons]; omega
theorem pushIts_old : ∀ (ts : List Addr) (h : Heap) (b : Addr) (o : Obj), h.get? b = some o → (pushIts h ts).get? b = some o
  | [], _, _, _, e => e
  | t :: ts, h, b, o, e => pushIts_old ts _ b o (Heap.get?_push_of_some _ e)
theorem pushIts_it : ∀ (ts : List Addr) (h : Heap) (j : Nat) (t : Addr), ts[j]? = some t → (pushIts h ts).get? (h.objs.size + j) = some (itObj t)
  | [], _, _, _, e => nomatch e
  | t :: ts, h, 0, u, e => by
    obtain rfl : t = u := by simpa using e
    exact pushIts_old ts _ _ _ (Heap.get?_push_size _ rfl)
  | t :: ts, h, j + 1, u, e => by
    have := pushIts_it ts (h.push (itObj t)) j u (by simpa using e)
    rw [Heap.size_push] at this
    rw [show h.objs.size + (j + 1) = h.objs.size + 1 + j by omega]
    exact this

section
variable {prog : Program} {w : World} {A : Around} {E : Value → Shared → Prop} {s : Shared}
theorem iterAll_tups {Q : List Value → Shared → Prop} (ts : List Addr) (ht : ∀ t ∈ ts, ∃ xs, s.heap.IsTuple t xs)
    (h : Q (refs s.heap.objs.size ts.length) { s with heap := pushIts s.heap ts }) :
    wpAny (model prog w) A (Builtin.SmallTypes.iterAll (ts.map .ref)) Q E s := by
  unfold Builtin.SmallTypes.iterAll
  refine wpAny_bind (wpAny_forIn_list _ (fun rest b s' => ∃ ts', rest = ts'.map Value.ref ∧ (∀ t ∈ ts', ∃ xs, s'.heap.IsTuple t xs) ∧
    Q (b.toList ++ refs s'.heap.objs.size ts'.length) { s' with heap := pushIts s'.heap ts' }) _ (fun x rest b s' I => ?_) (fun b s' I => ?_) _ _ ⟨ts, rfl, ht, by simpa using h⟩)
  · obtain ⟨ts', e, ht', q⟩ := I
    cases ts' with
    | nil => cases e
    | cons t ts' =>
      simp only [List.map_cons, List.cons.injEq] at e
      obtain ⟨rfl, rfl⟩ := e
      obtain ⟨xs, hx⟩ := ht' t List.mem_cons_self
      refine wpAny_bind (wpAny_holding (wpAny_pyIter_tuple hx (wpAny_pure ⟨ts', rfl, fun u hu => ?_, ?_⟩)))
      · obtain ⟨ys, hy⟩ := ht' u (List.mem_cons_of_mem _ hu)
        exact ⟨ys, hy.push _⟩
      · rw [List.length_cons, refs_succ] at q
        show Q ((b.push (.ref s'.heap.objs.size)).toList ++ refs (s'.heap.push (itObj t)).objs.size ts'.length) _
        rw [Heap.size_push, Array.toList_push, List.append_assoc]
        exact q
  · obtain ⟨ts', e, _, q⟩ := I
    cases ts' with
    | nil =>
      refine wpAny_pure ?_
      rw [List.length_nil, refs_zero, List.append_nil] at q
      exact q
    | cons t ts' => cases e

/-- the record of a zip over k iterators that begin at n -/
def zipObj (n k : Nat) (f0 f1 : Value) : Obj := { cls := .type "zip", dict := none, data := .fields #[f0, f1, .bool false, .ref (n + k), .ref (n + k + 1)], slots := #[] }
def tupObj (vs : List Value) : Obj := { cls := .type "tuple", data := .seq vs.toArray }
theorem begins {Q : Value → Shared → Prop} (ts : List Addr) (hz : ts.length ≤ sizeLine) (ht : ∀ t ∈ ts, ∃ xs, s.heap.IsTuple t xs)
    (h : ∀ h', h'.get? (s.heap.objs.size + ts.length + 2) = some (zipObj s.heap.objs.size ts.length .none (.bool false)) →
      h'.get? (s.heap.objs.size + ts.length) = some (tupObj (refs s.heap.objs.size ts.length)) →
      (∃ vs, vs.length = ts.length ∧ h'.get? (s.heap.objs.size + ts.length + 1) = some (tupObj vs)) →
      (∀ j t, ts[j]? = some t → h'.get? (s.heap.objs.size + j) = some (itObj t)) →
      h'.objs.size = s.heap.objs.size + ts.length + 3 → (∀ c o, s.heap.get? c = some o → h'.get? c = some o) →
      Q (.ref (s.heap.objs.size + ts.length + 2)) { s with heap := h' }) :
    wpAny (model prog w) A (call (.type "zip") (ts.map .ref)) Q E s := by
  have hsub := sub_zip
  have sz := pushIts_size ts s.heap
  refine callType_new F.called_zip (by decide) (typeCall_zip _) (newCall_zip _) (fun obj => args_init obj _) F.entry_zip_new
    (S := fun _ R s' => s' = s ∧ R (.ok (.ret (.ref (s.heap.objs.size + ts.length + 2)))) { s with heap :=
      (((pushIts s.heap ts).push (tupObj (refs s.heap.objs.size ts.length))).push (tupObj ((refs s.heap.objs.size ts.length).map fun _ => .none))).push (zipObj s.heap.objs.size ts.length .none (.bool false)) })
    (.of_wp fun prog w A R s' hs => ?_) ⟨rfl, ?_⟩
  · obtain ⟨rfl, hR⟩ := hs
    have q1 : ∀ {A' : Around} {E : Value → Shared → Prop} {Q : List Value → Shared → Prop}, Q (refs s'.heap.objs.size ts.length) { s' with heap := pushIts s'.heap ts } → wpAny (model prog w) A' (Builtin.SmallTypes.iterAll (ts.map .ref)) Q E s' := fun q => iterAll_tups ts ht q
    have sz1 : ∀ o, ((pushIts s'.heap ts).push o).objs.size = s'.heap.objs.size + ts.length + 1 := fun o => by rw [Heap.size_push, sz]
    have sz2 : ∀ o o', (((pushIts s'.heap ts).push o).push o').objs.size = s'.heap.objs.size + ts.length + 2 := fun o o' => by rw [Heap.size_push, sz1]
    unfold Builtin.«zip.__new__»
    refine wpAny_bind (wpAny_of_eq (a := (Value.type "zip", ts.map Value.ref)) (by first | rfl | kernel_rfl) ?_)
    dsimp only
    refine wpAny_bind (q1 ?_)
    refine wpAny_bind (wpAny_newTuple ?_ (by rw [refs_length]; exact hz))
    refine wpAny_bind (wpAny_newTuple ?_ (by rw [List.length_map, refs_length]; exact hz))
    refine wpAny_bind ?_
    dsimp only
    show wpAny _ _ (newObj (.type "zip") (.fields #[.none, .bool false, .bool false, .ref _, .ref _])) _ _ _
    refine wpAny_newObj_type ?_
    refine wpAny_pure ⟨_, rfl, ?_⟩
    dsimp only
    simp only [Heap.size_push, sz]
    exact hR
  · have sz1 : ∀ o, ((pushIts s.heap ts).push o).objs.size = s.heap.objs.size + ts.length + 1 := fun o => by rw [Heap.size_push, sz]
    have sz2 : ∀ o o', (((pushIts s.heap ts).push o).push o').objs.size = s.heap.objs.size + ts.length + 2 := fun o o' => by rw [Heap.size_push, sz1]
    refine ⟨⟨zipObj s.heap.objs.size ts.length .none (.bool false), ?_, rfl⟩, h _ ?_ ?_ ⟨(refs s.heap.objs.size ts.length).map fun _ => .none, by rw [List.length_map, refs_length], ?_⟩ ?_ ?_ ?_⟩
    · show Heap.get? _ _ = _
      rw [← sz2 (tupObj (refs s.heap.objs.size ts.length)) (tupObj ((refs s.heap.objs.size ts.length).map fun _ => .none))]
      exact Heap.get?_push_size _ rfl
    · rw [← sz2 (tupObj (refs s.heap.objs.size ts.length)) (tupObj ((refs s.heap.objs.size ts.length).map fun _ => .none))]
      exact Heap.get?_push_size _ rfl
    · refine Heap.get?_push_of_some _ (Heap.get?_push_of_some _ ?_)
      rw [← sz]
      exact Heap.get?_push_size _ rfl
    · refine Heap.get?_push_of_some _ ?_
      rw [← sz1 (tupObj (refs s.heap.objs.size ts.length))]
      exact Heap.get?_push_size _ rfl
    · exact fun j t e => Heap.get?_push_of_some _ (Heap.get?_push_of_some _ (Heap.get?_push_of_some _ (pushIts_it ts _ j t e)))
    · rw [Heap.size_push, sz2]
    · exact fun c o e => Heap.get?_push_of_some _ (Heap.get?_push_of_some _ (Heap.get?_push_of_some _ (pushIts_old ts _ c o e)))
end
end ZN

set_option maxHeartbeats 1000000
namespace ZN
open PySem PySem.Spec PyProof.Rows
/-- the iterators over the tuples ts begin at n; the one with the place j has gone p j turns; xss j is what the tuple with this place has -/
structure Its (h : Heap) (n : Nat) (ts : List Addr) (xss : Nat → Array Value) (p : Nat → Nat) : Prop where
  it : ∀ (j : Nat) (t : Addr), ts[j]? = some t → h.IsTupleIter (n + j) t (p j)
  src : ∀ (j : Nat) (t : Addr), ts[j]? = some t → h.IsTuple t (xss j)
  old : ∀ t ∈ ts, t < n
theorem Its.far {h h' : Heap} {n : Nat} {ts : List Addr} {xss : Nat → Array Value} {p : Nat → Nat} {b : Nat} (I : Its h n ts xss p) (hs : Heap.ExtBut b h h') (hb : n + ts.length ≤ b) : Its h' n ts xss p where
  it := fun j t e => (I.it j t e).extBut hs (Nat.ne_of_lt (by have := (List.getElem?_eq_some_iff.mp e).1; omega))
  src := fun j t e => (I.src j t e).extBut hs (Nat.ne_of_lt (Nat.lt_of_lt_of_le (I.old t (List.mem_of_getElem? e)) (Nat.le_trans (Nat.le_add_right _ _) hb)))
  old := I.old
theorem Its.push {h : Heap} {n : Nat} {ts : List Addr} {xss : Nat → Array Value} {p : Nat → Nat} (I : Its h n ts xss p) (o : Obj) : Its (h.push o) n ts xss p where
  it := fun j t e => (I.it j t e).at fun _ q => Heap.get?_push_of_some _ q
  src := fun j t e => (I.src j t e).push _
  old := I.old
section
variable {prog : Program} {w : World} {A : Around} {E : Value → Shared → Prop} {s : Shared}
/-- one draw -/
theorem Its.draw {n i j : Nat} {ts : List Addr} {xss : Nat → Array Value} {x : Value} {Q : Value → Shared → Prop} (I : Its s.heap n ts xss fun m => if m < j then i + 1 else i) (hj : j < ts.length) (hx : (xss j)[i]? = some x)
    (hQ : ∀ h', Its h' n ts xss (fun m => if m < j + 1 then i + 1 else i) → Heap.SameBut (n + j) s.heap h' → Q x { s with heap := h' }) :
    wpAny (model prog w) A (Builtin.SmallTypes.nextOf (.ref (n + j))) Q E s := by
  have e : ts[j]? = some ts[j] := List.getElem?_eq_getElem hj
  have i1 := I.it j _ e
  rw [if_neg (Nat.lt_irrefl j)] at i1
  refine wpAny_nextOf_tuple_item i1 (I.src j _ e) hx fun h' hit sb => hQ h' ⟨fun m t em => ?_, fun m t em => ?_, I.old⟩ sb
  · by_cases hm : m = j
    · subst hm
      obtain rfl : ts[m] = t := by rw [e] at em; exact Option.some.inj em
      rw [if_pos (Nat.lt_succ_self _)]
      exact hit
    · have := (I.it m t em).extBut sb.extBut (fun q => hm (Nat.add_left_cancel q))
      by_cases h2 : m < j
      · rw [if_pos h2] at this; rw [if_pos (Nat.lt_succ_of_lt h2)]; exact this
      · rw [if_neg h2] at this; rw [if_neg fun q => (Nat.lt_or_eq_of_le (Nat.le_of_lt_succ q)).elim h2 hm]; exact this
  · exact (I.src m t em).extBut sb.extBut (Nat.ne_of_lt (Nat.lt_of_lt_of_le (I.old t (List.mem_of_getElem? em)) (Nat.le_add_right _ _)))

/-- a zip whose tuple at T is out -/
def Held (h : Heap) (n k T : Nat) (f : Bool) : Prop := h.get? (n + k + 2) = some (zipObj n k (rawInt T) (.bool f))
theorem isFree_held {n k T : Nat} {f : Bool} {oT : Obj} {Q : Bool → Shared → Prop} (hz : Held s.heap n k T f) (hT : s.heap.get? T = some oT)
    (h : ∀ h', Held h' n k T true → Heap.SameBut (n + k + 2) s.heap h' → Q false { s with heap := h' }) : wpAny (model prog w) A (Builtin.SmallTypes.ownedTupleIsFree (.ref (n + k + 2))) Q E s :=
  wpAny_tupleHeld_zip (TI := n + k) (TO := n + k + 1) hz hT h
theorem next_held {n i T : Nat} {f : Bool} {oT : Obj} {ts : List Addr} {xss : Nat → Array Value} {cs : List Value} {Q : Value → Shared → Prop} (hz : Held s.heap n ts.length T f) (hT : s.heap.get? T = some oT)
    (hTI : s.heap.get? (n + ts.length) = some (tupObj (refs n ts.length))) (I : Its s.heap n ts xss fun _ => i) (hk : 0 < ts.length) (hcl : cs.length = ts.length) (hc : ∀ j, j < ts.length → (xss j)[i]? = cs[j]?)
    (hsz : ts.length ≤ sizeLine)
    (hQ : ∀ h', Held h' n ts.length T true → Its h' n ts xss (fun _ => i + 1) → h'.get? s.heap.objs.size = some (tupObj cs) → h'.objs.size = s.heap.objs.size + 1 →
      (∀ c o, (c < n ∨ n + ts.length ≤ c) → c ≠ n + ts.length + 2 → s.heap.get? c = some o → h'.get? c = some o) → Q (.ref s.heap.objs.size) { s with heap := h' }) :
    wpAny (model prog w) A (Builtin.«zip.__next__» ⟨[.ref (n + ts.length + 2)], []⟩) (fun fin s' => ∃ v, fin = .done (.ret v) ∧ Q v s') E s := by
  have hz' : s.heap.get? (n + ts.length + 2) = some (zipObj n ts.length (rawInt T) (.bool f)) := hz
  show wpAny _ _ (field (.ref (n + ts.length + 2)) 2 >>= _) _ _ _
  refine wpAny_bind (wpAny_field hz' rfl (x := .bool false) rfl ?_)
  show wpAny _ _ (field (.ref (n + ts.length + 2)) 3 >>= _) _ _ _
  refine wpAny_bind (wpAny_field hz' rfl (x := .ref (n + ts.length)) rfl ?_)
  refine wpAny_bind (wpAny_seqItems hTI rfl ?_)
  have hne : (refs n ts.length).toArray.isEmpty = false := by
    rw [show ts.length = (ts.length - 1) + 1 by omega, refs_succ]; rfl
  dsimp only
  rw [if_neg (by rw [hne]; decide)]
  refine wpAny_bind (isFree_held hz hT fun h₁ hz₁ hs₁ => ?_)
  simp only [Bool.false_eq_true, if_false]
  refine wpAny_bind ?_
  rw [← Array.forIn_toList]
  refine wpAny_forIn_list _ (fun rest b s' => ∃ j h', j ≤ ts.length ∧ rest = refs (n + j) (ts.length - j) ∧ b = (none, (cs.take j).toArray) ∧ s' = { s with heap := h' } ∧
    Its h' n ts xss (fun m => if m < j then i + 1 else i) ∧ Held h' n ts.length T true ∧ h'.objs.size = s.heap.objs.size ∧
    ∀ c o, (c < n ∨ n + ts.length ≤ c) → c ≠ n + ts.length + 2 → s.heap.get? c = some o → h'.get? c = some o) _ (fun x rest b s' J => ?_) (fun b s' J => ?_) _ _
    ⟨0, h₁, Nat.zero_le _, by simp, by simp, rfl, ?_, hz₁, hs₁.1, fun c o _ c2 q => hs₁.extBut _ _ c2 q⟩
  · obtain ⟨j, h', hj, er, rfl, rfl, I', hz', hs', hk'⟩ := J
    have hjl : j < ts.length := by
      rcases Nat.lt_or_eq_of_le hj with q | q
      · exact q
      · rw [q, Nat.sub_self, refs_zero] at er; cases er
    rw [show ts.length - j = (ts.length - (j + 1)) + 1 by omega, refs_succ] at er
    simp only [List.cons.injEq] at er
    obtain ⟨rfl, rfl⟩ := er
    have hjc : j < cs.length := by omega
    have ex : (xss j)[i]? = some cs[j] := by rw [hc j hjl]; exact List.getElem?_eq_getElem hjc
    refine wpAny_bind (wpAny_holding ?_)
    show wpAny _ _ (Builtin.SmallTypes.nextOf (.ref (n + j)) >>= _) _ _ _
    refine wpAny_bind (I'.draw (s := { s with heap := h' }) hjl ex fun h2 I2 sb => wpAny_pure (wpAny_pure ?_))
    refine ⟨j + 1, h2, hjl, by rw [Nat.add_assoc], ?_, rfl, I2, ?_, sb.1.trans hs', fun c o c1 c2 q => sb.extBut _ _ ?_ (hk' c o c1 c2 q)⟩
    · rw [List.take_succ, List.getElem?_eq_getElem hjc]; simp
    · exact sb.extBut _ _ (Nat.ne_of_gt (by omega)) hz'
    · rcases c1 with c1 | c1
      · exact Nat.ne_of_lt (by omega)
      · exact Nat.ne_of_gt (by omega)
  · obtain ⟨j, h', hj, er, rfl, rfl, I', hz', hs', hk'⟩ := J
    have e : j = ts.length := by
      rcases Nat.lt_or_eq_of_le hj with q | q
      · rw [show ts.length - j = (ts.length - (j + 1)) + 1 by omega, refs_succ] at er; cases er
      · exact q
    subst e
    dsimp only
    rw [List.take_of_length_le (by omega)]
    refine wpAny_bind (wpAny_newTuple ?_ (by rw [hcl]; exact hsz))
    refine wpAny_pure ⟨_, rfl, ?_⟩
    dsimp only
    rw [hs']
    have hT' : (h'.push (tupObj cs)).get? s.heap.objs.size = some (tupObj cs) := by rw [← hs']; exact Heap.get?_push_size _ rfl
    have := hQ (h'.push (tupObj cs)) (Heap.get?_push_of_some _ hz') (Its.push ⟨fun j t e => ?_, I'.src, I'.old⟩ _) hT' (by rw [Heap.size_push, hs']) fun c o c1 c2 q => Heap.get?_push_of_some _ (hk' c o c1 c2 q)
    · exact this
    · have := I'.it j t e
      rw [if_pos (List.getElem?_eq_some_iff.mp e).1] at this
      exact this
  · have I0 := I.far (b := n + ts.length + 2) hs₁.extBut (by omega)
    exact ⟨fun j t e => by have := I0.it j t e; simpa using this, I0.src, I0.old⟩
theorem end_held {n i T : Nat} {f : Bool} {oT : Obj} {ts : List Addr} {xss : Nat → Array Value} {Q : Fin → Shared → Prop} (hh : A.handled = none) (hz : Held s.heap n ts.length T f) (hT : s.heap.get? T = some oT)
    (hTI : s.heap.get? (n + ts.length) = some (tupObj (refs n ts.length))) (I : Its s.heap n ts xss fun _ => i) (hk : 0 < ts.length) (hc : (xss 0)[i]? = none)
    (hE : ∀ h' e, (∀ c o, (c < n ∨ n + ts.length ≤ c) → c ≠ n + ts.length + 2 → s.heap.get? c = some o → h'.get? c = some o) → (∃ o, h'.get? e = some o ∧ o.cls = .type "StopIteration") → E (.ref e) { s with heap := h' }) :
    wpAny (model prog w) A (Builtin.«zip.__next__» ⟨[.ref (n + ts.length + 2)], []⟩) Q E s := by
  have hz' : s.heap.get? (n + ts.length + 2) = some (zipObj n ts.length (rawInt T) (.bool f)) := hz
  show wpAny _ _ (field (.ref (n + ts.length + 2)) 2 >>= _) _ _ _
  refine wpAny_bind (wpAny_field hz' rfl (x := .bool false) rfl ?_)
  show wpAny _ _ (field (.ref (n + ts.length + 2)) 3 >>= _) _ _ _
  refine wpAny_bind (wpAny_field hz' rfl (x := .ref (n + ts.length)) rfl ?_)
  refine wpAny_bind (wpAny_seqItems hTI rfl ?_)
  have hne : (refs n ts.length).toArray.isEmpty = false := by
    rw [show ts.length = (ts.length - 1) + 1 by omega, refs_succ]; rfl
  dsimp only
  rw [if_neg (by rw [hne]; decide)]
  refine wpAny_bind (isFree_held hz hT fun h₁ hz₁ hs₁ => ?_)
  simp only [Bool.false_eq_true, if_false]
  refine wpAny_bind ?_
  rw [← Array.forIn_toList]
  have I0 := I.far (b := n + ts.length + 2) hs₁.extBut (by omega)
  have e0 : ts[0]? = some ts[0] := List.getElem?_eq_getElem hk
  have er : (refs n ts.length).toArray.toList = .ref n :: refs (n + 1) (ts.length - 1) := by
    rw [show ts.length = (ts.length - 1) + 1 by omega, refs_succ]; simp
  rw [er]
  simp only [List.forIn_cons]
  refine wpAny_bind (wpAny_bind (wpAny_holding ?_))
  show wpAny _ _ (Builtin.SmallTypes.nextOf (.ref n) >>= _) _ _ _
  refine wpAny_bind (wpAny_nextOf_tuple_end (s := { s with heap := h₁ }) hh (I0.it 0 _ e0) (I0.src 0 _ e0) hc fun h₂ e hs₂ he => hE h₂ e (fun c o c1 c2 q => hs₂ _ _ ?_ (hs₁.extBut _ _ c2 q)) he)
  rcases c1 with c1 | c1
  · exact Nat.ne_of_lt (by omega)
  · exact Nat.ne_of_gt (by omega)

theorem updateSeq_tup {T : Addr} {vs : List Value} {x : Value} {k : Nat} {Q : Unit → Shared → Prop} (hT : s.heap.get? T = some (tupObj vs)) (hz : vs.length ≤ sizeLine)
    (h : ∀ h', h'.get? T = some (tupObj (vs.set k x)) → Heap.SameBut T s.heap h' → Q () { s with heap := h' }) :
    wpAny (model prog w) A (updateSeq T (·.setIfInBounds k x)) Q E s := by
  refine wpAny_updateSeq hT rfl (h _ ?_ (Heap.SameBut.update ..)) (by simpa using hz) (by simp; exact Nat.le_succ_of_le hz)
  rw [Heap.get?_update_self _ hT rfl]
  simp [Obj.mapSeq, tupObj]
/-- the first turn -/
theorem next_first {n i : Nat} {ts : List Addr} {xss : Nat → Array Value} {cs : List Value} {Q : Value → Shared → Prop} (hz : s.heap.get? (n + ts.length + 2) = some (zipObj n ts.length .none (.bool false)))
    (hTI : s.heap.get? (n + ts.length) = some (tupObj (refs n ts.length))) (hTO : ∃ vs, vs.length = ts.length ∧ s.heap.get? (n + ts.length + 1) = some (tupObj vs))
    (I : Its s.heap n ts xss fun _ => i) (hk : 0 < ts.length) (hcl : cs.length = ts.length) (hc : ∀ j, j < ts.length → (xss j)[i]? = cs[j]?) (hsz : ts.length ≤ sizeLine)
    (hQ : ∀ h', Held h' n ts.length s.heap.objs.size false → Its h' n ts xss (fun _ => i + 1) → h'.get? s.heap.objs.size = some (tupObj cs) → h'.objs.size = s.heap.objs.size + 1 →
      (∀ c o, (c < n ∨ n + ts.length ≤ c) → c ≠ n + ts.length + 2 → c ≠ n + ts.length + 1 → s.heap.get? c = some o → h'.get? c = some o) → Q (.ref s.heap.objs.size) { s with heap := h' }) :
    wpAny (model prog w) A (Builtin.«zip.__next__» ⟨[.ref (n + ts.length + 2)], []⟩) (fun fin s' => ∃ v, fin = .done (.ret v) ∧ Q v s') E s := by
  show wpAny _ _ (field (.ref (n + ts.length + 2)) 2 >>= _) _ _ _
  refine wpAny_bind (wpAny_field hz rfl (x := .bool false) rfl ?_)
  show wpAny _ _ (field (.ref (n + ts.length + 2)) 3 >>= _) _ _ _
  refine wpAny_bind (wpAny_field hz rfl (x := .ref (n + ts.length)) rfl ?_)
  refine wpAny_bind (wpAny_seqItems hTI rfl ?_)
  have hne : (refs n ts.length).toArray.isEmpty = false := by
    rw [show ts.length = (ts.length - 1) + 1 by omega, refs_succ]; rfl
  dsimp only
  rw [if_neg (by rw [hne]; decide)]
  refine wpAny_bind ?_
  unfold Builtin.SmallTypes.ownedTupleIsFree
  refine wpAny_bind (wpAny_field hz rfl (x := .none) rfl (wpAny_pure ?_))
  simp only [if_true]
  refine wpAny_bind (wpAny_rule ?_)
  refine wpAny_bind (wpAny_field hz rfl (x := .ref (n + ts.length + 1)) rfl ?_)
  refine wpAny_bind (wpAny_setField_rec hz (by simp) fun h₁ hz₁ hs₁ => ?_)
  replace hz₁ : h₁.get? (n + ts.length + 2) = some (zipObj n ts.length .ellipsis (.bool false)) := hz₁
  refine wpAny_bind ?_
  obtain ⟨vs0, hv0, hT0⟩ := hTO
  have oth : ∀ c : Nat, c < n ∨ n + ts.length ≤ c → ∀ j, j < ts.length → c ≠ n + j := fun c c1 j hj => by
    rcases c1 with c1 | c1
    · exact Nat.ne_of_lt (by omega)
    · exact Nat.ne_of_gt (by omega)
  refine wpAny_forIn_list _ (fun rest b s' => ∃ j h' vs, j ≤ ts.length ∧ rest = (refs (n + j) (ts.length - j)).zipIdx j ∧ b = (none, ()) ∧ s' = { s with heap := h' } ∧ vs.length = ts.length ∧ vs.take j = cs.take j ∧
    Its h' n ts xss (fun m => if m < j then i + 1 else i) ∧ h'.get? (n + ts.length + 2) = some (zipObj n ts.length .ellipsis (.bool false)) ∧ h'.get? (n + ts.length + 1) = some (tupObj vs) ∧ h'.objs.size = s.heap.objs.size ∧
    ∀ c o, (c < n ∨ n + ts.length ≤ c) → c ≠ n + ts.length + 2 → c ≠ n + ts.length + 1 → s.heap.get? c = some o → h'.get? c = some o) _ (fun x rest b s' J => ?_) (fun b s' J => ?_) _ _
    ⟨0, h₁, vs0, Nat.zero_le _, by simp, rfl, rfl, hv0, by simp, ?_, hz₁, hs₁.extBut _ _ (Nat.ne_of_lt (by omega)) hT0, hs₁.1, fun c o _ c2 _ q => hs₁.extBut _ _ c2 q⟩
  · obtain ⟨j, h', vs, hj, er, rfl, rfl, hvl, htk, I', hz', hT', hs', hk'⟩ := J
    have hjl : j < ts.length := by
      rcases Nat.lt_or_eq_of_le hj with q | q
      · exact q
      · rw [q, Nat.sub_self, refs_zero] at er; cases er
    rw [show ts.length - j = (ts.length - (j + 1)) + 1 by omega, refs_succ, List.zipIdx_cons] at er
    simp only [List.cons.injEq] at er
    obtain ⟨rfl, rfl⟩ := er
    have hjc : j < cs.length := by omega
    have ex : (xss j)[i]? = some cs[j] := by rw [hc j hjl]; exact List.getElem?_eq_getElem hjc
    refine wpAny_bind (wpAny_onRaise ?_)
    show wpAny _ _ (Builtin.SmallTypes.nextOf (.ref (n + j)) >>= _) _ _ _
    refine wpAny_bind (I'.draw (s := { s with heap := h' }) hjl ex fun h2 I2 sb => wpAny_pure ?_)
    have hT2 : h2.get? (n + ts.length + 1) = some (tupObj vs) := sb.extBut _ _ (oth _ (.inr (by omega)) j hjl) hT'
    dsimp only
    refine wpAny_bind (wpAny_seqItems (s := { s with heap := h2 }) hT2 rfl ?_)
    dsimp only
    refine wpAny_bind (updateSeq_tup (s := { s with heap := h2 }) hT2 (by omega) fun h3 hT3 sb3 => ?_)
    refine wpAny_bind (wpAny_letGo (wpAny_pure ?_))
    refine ⟨j + 1, h3, vs.set j cs[j], hjl, by rw [Nat.add_assoc], rfl, rfl, by rw [List.length_set]; exact hvl, ?_, I2.far (b := n + ts.length + 1) sb3.extBut (by omega), ?_, hT3, sb3.1.trans (sb.1.trans hs'), fun c o c1 c2 c3 q => sb3.extBut _ _ c3 (sb.extBut _ _ (oth c c1 j hjl) (hk' c o c1 c2 c3 q))⟩
    · rw [List.take_succ, List.take_succ, List.take_set_of_le (Nat.le_refl _), htk, List.getElem?_set_self (by omega), List.getElem?_eq_getElem hjc]
    · exact sb3.extBut _ _ (Nat.ne_of_gt (by omega)) (sb.extBut _ _ (oth _ (.inr (by omega)) j hjl) hz')
  · obtain ⟨j, h', vs, hj, er, rfl, rfl, hvl, htk, I', hz', hT', hs', hk'⟩ := J
    have e : j = ts.length := by
      rcases Nat.lt_or_eq_of_le hj with q | q
      · rw [show ts.length - j = (ts.length - (j + 1)) + 1 by omega, refs_succ, List.zipIdx_cons] at er; cases er
      · exact q
    subst e
    rw [List.take_of_length_le (by omega), List.take_of_length_le (by omega)] at htk
    subst htk
    dsimp only
    refine wpAny_bind (wpAny_seqItems (s := { s with heap := h' }) hT' rfl ?_)
    dsimp only
    refine wpAny_bind (wpAny_newTuple ?_ (by rw [hcl]; exact hsz))
    have hp : (h'.push (tupObj vs)).get? (n + ts.length + 2) = some (zipObj n ts.length .ellipsis (.bool false)) := Heap.get?_push_of_some _ hz'
    have ht : (h'.push (tupObj vs)).get? s.heap.objs.size = some (tupObj vs) := by rw [← hs']; exact Heap.get?_push_size _ rfl
    have hlt : n + ts.length + 2 < s.heap.objs.size := by rw [← hs']; exact Heap.lt_size hz'
    show wpAny _ _ (Builtin.SmallTypes.ownedTupleHandOut (.ref (n + ts.length + 2)) (.ref h'.objs.size) >>= _) _ _ { s with heap := h'.push (tupObj vs) }
    rw [hs']
    refine wpAny_bind ?_
    unfold Builtin.SmallTypes.ownedTupleHandOut
    refine wpAny_bind (wpAny_setField_rec (s := { s with heap := h'.push (tupObj vs) }) hp (by simp) fun h₇ hz₇ hs₇ => ?_)
    refine wpAny_setField_rec (s := { s with heap := h₇ }) hz₇ (by simp) fun h₈ hz₈ hs₈ => ?_
    refine wpAny_pure ⟨_, rfl, ?_⟩
    replace hs₇ : Heap.SameBut (n + ts.length + 2) (h'.push (tupObj vs)) h₇ := hs₇
    replace hs₈ : Heap.SameBut (n + ts.length + 2) h₇ h₈ := hs₈
    have up : ∀ c o, c ≠ n + ts.length + 2 → (h'.push (tupObj vs)).get? c = some o → h₈.get? c = some o := fun c o c1 e => hs₈.extBut _ _ c1 (hs₇.extBut _ _ c1 e)
    have I8 : Its h₈ n ts xss (fun _ => i + 1) := by
      have I1 := ((I'.push (tupObj vs)).far (b := n + ts.length + 2) hs₇.extBut (by omega)).far (b := n + ts.length + 2) hs₈.extBut (by omega)
      refine ⟨fun j t e => ?_, I1.src, I1.old⟩
      have := I1.it j t e
      rw [if_pos (List.getElem?_eq_some_iff.mp e).1] at this
      exact this
    exact hQ h₈ hz₈ I8 (up _ _ (Nat.ne_of_gt hlt) ht) (by rw [hs₈.1, hs₇.1, Heap.size_push, hs']) fun c o c1 c2 c3 q => up c o c2 (Heap.get?_push_of_some _ (hk' c o c1 c2 c3 q))
  · have I0 := I.far (b := n + ts.length + 2) hs₁.extBut (by omega)
    exact ⟨fun j t e => by have := I0.it j t e; simpa using this, I0.src, I0.old⟩
end
end ZN

set_option maxHeartbeats 1000000
namespace ZN
open PySem PySem.Spec PyProof.Rows
theorem no_len : typeLookup (.type "zip") "__len__" = pure none := by rw [typeLookup_type, builtinLookup_eq_fast]; kernel_rfl
theorem no_hint : typeLookup (.type "zip") "__length_hint__" = pure none := by rw [typeLookup_type, builtinLookup_eq_fast]; kernel_rfl
/-- a zip of n tuples behind i turns, all its cells -/
structure Zst (h : Heap) (n : Nat) (ts : List Addr) (xss : Nat → Array Value) (i S : Nat) : Prop where
  its : Its h n ts xss fun _ => i
  TI : h.get? (n + ts.length) = some (tupObj (refs n ts.length))
  cell : (i = 0 ∧ h.get? (n + ts.length + 2) = some (zipObj n ts.length .none (.bool false)) ∧ ∃ vs, vs.length = ts.length ∧ h.get? (n + ts.length + 1) = some (tupObj vs)) ∨
    ∃ T f oT, Held h n ts.length T f ∧ h.get? T = some oT ∧ T ≠ S ∧ n + ts.length + 3 ≤ T
theorem Zst.typeIs {s : Shared} {n i S : Nat} {ts : List Addr} {xss : Nat → Array Value} (Z : Zst s.heap n ts xss i S) : s.TypeIs (.ref (n + ts.length + 2)) "zip" := by
  rcases Z.cell with ⟨_, h, _⟩ | ⟨_, _, _, h, _⟩
  · exact ⟨_, h, rfl⟩
  · exact ⟨_, h, rfl⟩
theorem Zst.far {h h' : Heap} {n i S : Nat} {ts : List Addr} {xss : Nat → Array Value} (Z : Zst h n ts xss i S) (hS : n + ts.length + 3 ≤ S) (hs : Heap.ExtBut S h h') : Zst h' n ts xss i S where
  its := Z.its.far hs (by omega)
  TI := hs _ _ (Nat.ne_of_lt (by omega)) Z.TI
  cell := by
    rcases Z.cell with ⟨h0, h1, vs, h2, h3⟩ | ⟨T, f, oT, h1, h2, h3, h4⟩
    · exact .inl ⟨h0, hs _ _ (Nat.ne_of_lt (by omega)) h1, vs, h2, hs _ _ (Nat.ne_of_lt (by omega)) h3⟩
    · exact .inr ⟨T, f, oT, hs _ _ (Nat.ne_of_lt (by omega)) h1, hs _ _ h3 h2, h3, h4⟩
section
variable {prog : Program} {w : World} {A : Around} {E : Value → Shared → Prop} {s : Shared}
theorem Zst.next {n i S : Nat} {ts : List Addr} {xss : Nat → Array Value} {cs : List Value} {Q : Option Value → Shared → Prop} (Z : Zst s.heap n ts xss i S) (hS : S < s.heap.objs.size) (hS3 : n + ts.length + 3 ≤ S)
    (hk : 0 < ts.length) (hcl : cs.length = ts.length) (hc : ∀ j, j < ts.length → (xss j)[i]? = cs[j]?) (hsz : ts.length ≤ sizeLine)
    (hQ : ∀ h', Zst h' n ts xss (i + 1) S → h'.get? s.heap.objs.size = some (tupObj cs) → h'.objs.size = s.heap.objs.size + 1 →
      (∀ c o, (c < n ∨ n + ts.length + 3 ≤ c) → s.heap.get? c = some o → h'.get? c = some o) → Q (some (.ref s.heap.objs.size)) { s with heap := h' }) :
    wpAny (model prog w) A (pyNext (.ref (n + ts.length + 2))) Q E s := by
  have hTy := Z.typeIs
  unfold pyNext
  rcases Z.cell with ⟨_, h1, h2⟩ | ⟨T, f, oT, h1, h2, h3, h4⟩
  · refine wpAny_bind (wpAny_attempt (wpAny_callSpecial?_slot (name := Str.ofString "__next__") hTy F.slot_zip_next
      (wpAny_call_entry F.slot_zip_next hTy F.entry_zip_next
        (next_first h1 Z.TI h2 Z.its hk hcl hc hsz fun h' a1 a2 a3 a4 a5 => wpAny_pure (hQ h' ⟨a2, a5 _ _ (.inr (Nat.le_refl _)) (Nat.ne_of_lt (by omega)) (Nat.ne_of_lt (by omega)) Z.TI, .inr ⟨_, _, _, a1, a3, Nat.ne_of_gt hS, by omega⟩⟩ a3 a4 fun c o c1 q =>
          a5 c o (c1.imp id fun z => by omega) ?_ ?_ q)) (F.args_zip_next_1 _))))
    · rcases c1 with c1 | c1
      · exact Nat.ne_of_lt (by omega)
      · exact Nat.ne_of_gt (by omega)
    · rcases c1 with c1 | c1
      · exact Nat.ne_of_lt (by omega)
      · exact Nat.ne_of_gt (by omega)
  · refine wpAny_bind (wpAny_attempt (wpAny_callSpecial?_slot (name := Str.ofString "__next__") hTy F.slot_zip_next
      (wpAny_call_entry F.slot_zip_next hTy F.entry_zip_next
        (next_held h1 h2 Z.TI Z.its hk hcl hc hsz fun h' a1 a2 a3 a4 a5 => wpAny_pure (hQ h' ⟨a2, a5 _ _ (.inr (Nat.le_refl _)) (Nat.ne_of_lt (by omega)) Z.TI,
          .inr ⟨T, true, oT, a1, a5 _ _ (.inr (by omega)) (Nat.ne_of_gt (by omega)) h2, h3, h4⟩⟩ a3 a4 fun c o c1 q => a5 c o (c1.imp id fun z => by omega) ?_ q)) (F.args_zip_next_1 _))))
    rcases c1 with c1 | c1
    · exact Nat.ne_of_lt (by omega)
    · exact Nat.ne_of_gt (by omega)
theorem Zst.over {n i S : Nat} {ts : List Addr} {xss : Nat → Array Value} {Q : Option Value → Shared → Prop} (hh : A.handled = none) (Z : Zst s.heap n ts xss i S) (h0 : 0 < i)
    (hk : 0 < ts.length) (hc : (xss 0)[i]? = none)
    (hQ : ∀ h', (∀ c o, (c < n ∨ n + ts.length + 3 ≤ c) → s.heap.get? c = some o → h'.get? c = some o) → Q none { s with heap := h' }) :
    wpAny (model prog w) A (pyNext (.ref (n + ts.length + 2))) Q E s := by
  have hTy := Z.typeIs
  unfold pyNext
  rcases Z.cell with ⟨e, _⟩ | ⟨T, f, oT, h1, h2, h3, h4⟩
  · omega
  · refine wpAny_bind (wpAny_attempt (wpAny_callSpecial?_slot (name := Str.ofString "__next__") hTy F.slot_zip_next
      (wpAny_call_entry F.slot_zip_next hTy F.entry_zip_next (end_held hh h1 h2 Z.TI Z.its hk hc fun h' e hk he => ?_) (F.args_zip_next_1 _))))
    obtain ⟨o, ho, hc⟩ := he
    refine wpAny_bind (wpAny_isInstance (T := "StopIteration") (b := true) ⟨o, ho, hc⟩ isSubtype_stop ?_)
    refine wpAny_pure (hQ _ fun c o c1 q => hk c o (c1.imp id fun z => by omega) ?_ q)
    rcases c1 with c1 | c1
    · exact Nat.ne_of_lt (by omega)
    · exact Nat.ne_of_gt (by omega)

/-- what the columns have become -/
structure Cols (h : Heap) (lo S : Nat) (as : List Addr) (cols : Nat → List Value) : Prop where
  has : ∀ (j : Nat) (a : Addr), as[j]? = some a → h.get? a = some (tupObj (cols j))
  nd : as.Nodup
  hi : ∀ a ∈ as, lo ≤ a ∧ a ≠ S
theorem loop {n S W : Nat} {ts : List Addr} {xss : Nat → Array Value} {cols : Nat → List Value} (hh : A.in1.handled = none) (hS3 : n + ts.length + 3 ≤ S) (hk : 0 < ts.length) (hsz : ts.length ≤ sizeLine) (hW : W ≤ sizeLine) (hW0 : 0 < W)
    (hcl : ∀ i, i < W → (cols i).length = ts.length) (hc : ∀ i, i < W → ∀ j, j < ts.length → (xss j)[i]? = (cols i)[j]?) (hend : (xss 0)[W]? = none) :
    ∀ (m i : Nat) (s : Shared) (as : List Addr) (c : Nat) (R : Result → Shared → Prop), i + m = W → Zst s.heap n ts xss i S → s.heap.get? S = some { cls := .type "list", dict := none, data := .seq (as.map Value.ref).toArray c, slots := #[] } → as.length = i →
      Cols s.heap (n + ts.length + 3) S as cols →
      (∀ h' as' c', (∀ b o, b < n → s.heap.get? b = some o → h'.get? b = some o) → h'.get? S = some { cls := .type "list", dict := none, data := .seq (as'.map Value.ref).toArray c', slots := #[] } → as'.length = W → Cols h' (n + ts.length + 3) S as' cols →
        R (.ok (.ret (.ref S))) { s with heap := h' }) →
      codeAny (model prog w) A (.builtin "list.extend.loop" ⟨[.ref S, .ref (n + ts.length + 2), .ref S], []⟩) R s := by
  intro m
  induction m with
  | zero =>
    intro i s as c R hi Z hS hl C hR
    obtain rfl : i = W := by omega
    refine codeAny_builtin F.entry_extend_loop ?_
    rw [Around.under_plainId F.plain_extend_loop _]
    show wpAny _ A.in1 (pyNext (.ref (n + ts.length + 2)) >>= _) _ _ s
    refine wpAny_bind (Z.over hh hW0 hk hend fun h' k => ?_)
    exact wpAny_pure (hR h' as c (fun b o hb q => k b o (.inl hb) q) (k _ _ (.inr hS3) hS) hl ⟨fun j a e => k _ _ (.inr (C.hi a (List.mem_of_getElem? e)).1) (C.has j a e), C.nd, C.hi⟩)
  | succ m ih =>
    intro i s as c R hi Z hS hl C hR
    have hlt : i < W := by omega
    refine codeAny_builtin F.entry_extend_loop ?_
    rw [Around.under_plainId F.plain_extend_loop _]
    show wpAny _ A.in1 (pyNext (.ref (n + ts.length + 2)) >>= _) _ _ s
    refine wpAny_bind (Z.next (Heap.lt_size hS) hS3 hk (hcl i hlt) (hc i hlt) hsz fun h' Z' hT hsize k => ?_)
    have hS' := k _ _ (.inr hS3) hS
    have hSz : S < s.heap.objs.size := Heap.lt_size hS
    show wpAny _ A.in1 (updateSeq S (·.push (.ref s.heap.objs.size)) >>= _) _ _ { s with heap := h' }
    refine wpAny_bind ?_
    have hsize' : as.length ≤ sizeLine := by omega
    obtain ⟨c2, e2⟩ : ∃ c2, (h'.update S (Obj.mapSeq fun x => x.push (.ref s.heap.objs.size))).get? S = some { cls := .type "list", dict := none, data := .seq ((as ++ [s.heap.objs.size]).map Value.ref).toArray c2, slots := #[] } := by
      have e : ((as ++ [s.heap.objs.size]).map Value.ref).toArray = ((as.map Value.ref).toArray).push (.ref s.heap.objs.size) := by simp
      rw [e]
      exact ⟨_, Heap.get?_update_self _ hS' rfl⟩
    refine wpAny_updateSeq (s := { s with heap := h' }) hS' rfl (wpAny_pure ⟨plainId_quiet F.plain_extend_loop _, ih (i + 1) _ (as ++ [s.heap.objs.size]) c2 _ (by omega) (Z'.far hS3 (Heap.SameBut.update ..).extBut) e2 (by simp [hl]) ?_ fun h2 as' c' k2 hS2 hl2 C2 => ?_⟩)
      (by simpa using hsize') (by simp; omega)
    · have fr : ∀ c o, c ≠ S → h'.get? c = some o → (h'.update S (Obj.mapSeq fun x => x.push (.ref s.heap.objs.size))).get? c = some o := fun c o hc q => (Heap.get?_update_other _ _ (Ne.symm hc)).trans q
      refine ⟨fun j a e => ?_, ?_, fun a ha => ?_⟩
      · rw [List.getElem?_append] at e
        split at e
        · exact fr _ _ (C.hi a (List.mem_of_getElem? e)).2 (k _ _ (.inr (C.hi a (List.mem_of_getElem? e)).1) (C.has j a e))
        · rename_i hj
          have hj0 : j - as.length = 0 := by
            rcases Nat.eq_zero_or_pos (j - as.length) with q | q
            · exact q
            · rw [List.getElem?_eq_none (by simp; omega)] at e; cases e
          rw [hj0] at e
          obtain rfl : s.heap.objs.size = a := by simpa using e
          obtain rfl : j = i := by omega
          exact fr _ _ (Nat.ne_of_gt hSz) hT
      · rw [List.nodup_append]
        refine ⟨C.nd, by simp, fun a ha b hb q => ?_⟩
        obtain rfl : b = s.heap.objs.size := by simpa using hb
        subst q
        obtain ⟨j, hj⟩ := List.getElem?_of_mem ha
        exact Nat.lt_irrefl _ (Heap.lt_size (C.has j _ hj))
      · rcases List.mem_append.mp ha with ha | ha
        · exact C.hi a ha
        · obtain rfl : a = s.heap.objs.size := by simpa using ha
          exact ⟨by omega, Nat.ne_of_gt hSz⟩
    · refine hR h2 as' c' (fun b o hb q => k2 b o hb ?_) hS2 hl2 C2
      exact (Heap.get?_update_other _ _ (Nat.ne_of_gt (by omega))).trans (k b o (.inl hb) q)
end
end ZN

set_option maxHeartbeats 1000000
namespace ZN
open PySem PySem.Spec PyProof.Rows
section
variable {prog : Program} {w : World} {A : Around} {E : Value → Shared → Prop} {s : Shared}
/-- what a run over a zip of n tuples leaves -/
def Left (h h' : Heap) (n k W : Nat) (cols : Nat → List Value) (as : List Addr) : Prop :=
  (∀ b o, b < n → h.get? b = some o → h'.get? b = some o) ∧ as.length = W ∧ (∀ (j : Nat) (a : Addr), as[j]? = some a → h'.get? a = some (tupObj (cols j))) ∧ as.Nodup ∧ ∀ a ∈ as, n + k + 3 ≤ a
theorem collect_zip {n W : Nat} {ts : List Addr} {xss : Nat → Array Value} {cols : Nat → List Value} {Q : List Value → Shared → Prop} (hh : A.handled = none) (Z : Zst s.heap n ts xss 0 s.heap.objs.size)
    (hfr : s.heap.get? (n + ts.length + 2) = some (zipObj n ts.length .none (.bool false))) (hz : n + ts.length + 3 ≤ s.heap.objs.size) (hk : 0 < ts.length) (hsz : ts.length ≤ sizeLine) (hW : W ≤ sizeLine) (hW0 : 0 < W)
    (hcl : ∀ i, i < W → (cols i).length = ts.length) (hc : ∀ i, i < W → ∀ j, j < ts.length → (xss j)[i]? = (cols i)[j]?) (hend : (xss 0)[W]? = none)
    (hQ : ∀ h' as, Left s.heap h' n ts.length W cols as → Q (as.map Value.ref) { s with heap := h' }) : wpAny (model prog w) A (collect (.ref (n + ts.length + 2))) Q E s := by
  have hSz : s.heap.objs.size ≠ n + ts.length + 2 := Nat.ne_of_gt (by omega)
  unfold collect
  refine wpAny_bind (wpAny_runValue (codeAny_builtin F.entry_proto_collect ?_))
  rw [Around.under_plainId F.plain_proto_collect _]
  show wpAny _ A.in1 (newList [] >>= fun l => again (.builtin "list.__iadd__" ⟨[l, .ref (n + ts.length + 2)], []⟩)) _ _ s
  refine wpAny_bind (wpAny_newObj_type ?_)
  refine wpAny_pure ⟨plainId_quiet F.plain_list_iadd _, codeAny_builtin F.entry_list_iadd ?_⟩
  rw [Around.under_plainId F.plain_list_iadd _]
  have Z1 : Zst (s.heap.push { cls := .type "list", data := .seq ([] : List Value).toArray }) n ts xss 0 s.heap.objs.size :=
    Z.far hz fun b o _ e => Heap.get?_push_of_some _ e
  have hT : ({ s with heap := s.heap.push { cls := .type "list", data := .seq ([] : List Value).toArray } } : Shared).TypeIs (.ref (n + ts.length + 2)) "zip" :=
    Zst.typeIs (s := { s with heap := s.heap.push { cls := .type "list", data := .seq ([] : List Value).toArray } }) Z1
  show wpAny _ A.in1 (Builtin.List.listExtendWith (.ref s.heap.objs.size) (.ref (n + ts.length + 2)) (.ref s.heap.objs.size)) _ _ _
  unfold Builtin.List.listExtendWith
  refine wpAny_bind (wpAny_typeOf hT ?_)
  have h1 : Builtin.List.listSameRef (.ref s.heap.objs.size) (.ref (n + ts.length + 2)) = false := by simp [Builtin.List.listSameRef, hSz]
  have h2 : (Value.type "zip" == Value.type "list") = false := by decide
  have h3 : (Value.type "zip" == Value.type "tuple") = false := by decide
  simp only [h1, h2, h3, Bool.or_false, Bool.false_eq_true, if_false]
  have hz0 : IsZip (s.heap.push { cls := .type "list", data := .seq ([] : List Value).toArray }) (n + ts.length + 2) (n + ts.length) (n + ts.length + 1) .none := Heap.get?_push_of_some _ hfr
  refine wpAny_bind (wpAny_pyIter_zip (s := { s with heap := s.heap.push { cls := .type "list", data := .seq ([] : List Value).toArray } }) hz0 ?_)
  refine wpAny_bind (wpAny_holding ?_)
  unfold Builtin.List.listLengthHint
  refine wpAny_bind (wpAny_specialOf hT no_len ?_)
  show wpAny _ A.in1 (specialOf (Value.ref (n + ts.length + 2)) (Str.ofString "__length_hint__") >>= _) _ _ _
  refine wpAny_bind (wpAny_specialOf hT no_hint ?_)
  refine wpAny_pure ?_
  show wpAny _ A.in1 (rule "list.extend.makes-room" >>= fun _ => Builtin.List.listTouch (.ref s.heap.objs.size) >>= fun _ =>
    again (.builtin "list.extend.loop" ⟨[.ref s.heap.objs.size, .ref (n + ts.length + 2), .ref s.heap.objs.size], []⟩)) _ _ _
  refine wpAny_bind (wpAny_rule ?_)
  have hS₁ : (s.heap.push { cls := .type "list", data := .seq ([] : List Value).toArray }).get? s.heap.objs.size = some { cls := .type "list", data := .seq ([] : List Value).toArray } := Heap.get?_push_size _ rfl
  refine wpAny_bind ?_
  show wpAny _ A.in1 (updateSeq s.heap.objs.size (·.push .none) >>= fun _ => updateSeq s.heap.objs.size (·.pop)) _ _ _
  refine wpAny_bind (wpAny_updateSeq hS₁ rfl ?_)
  have hS₂ := Heap.get?_update_self (Obj.mapSeq (·.push Value.none)) hS₁ rfl
  refine wpAny_updateSeq hS₂ rfl ?_
  have hS₃ := Heap.get?_update_self (Obj.mapSeq (·.pop)) hS₂ rfl
  have oth : Heap.ExtBut s.heap.objs.size (s.heap.push { cls := .type "list", data := .seq ([] : List Value).toArray })
      (((s.heap.push { cls := .type "list", data := .seq ([] : List Value).toArray }).update s.heap.objs.size (Obj.mapSeq (·.push Value.none))).update s.heap.objs.size (Obj.mapSeq (·.pop))) :=
    fun b o hb e => (Heap.get?_update_other _ _ (Ne.symm hb)).trans ((Heap.get?_update_other _ _ (Ne.symm hb)).trans e)
  refine wpAny_pure ⟨plainId_quiet F.plain_extend_loop _, loop hh hz hk hsz hW hW0 hcl hc hend W 0 _ [] _ _ (Nat.zero_add _) (Z1.far hz oth) hS₃ rfl ⟨fun j a e => (nomatch e), List.nodup_nil, fun a ha => (nomatch ha)⟩ fun h' as' c' hm hS' hl C => ?_⟩
  show wpAny _ A (load s.heap.objs.size >>= _) _ _ { s with heap := h' }
  refine wpAny_bind (wpAny_load (s := { s with heap := h' }) hS' ?_)
  refine wpAny_pure ?_
  have q := hQ h' as' ⟨fun b o hb q => hm b o hb (oth b o (Nat.ne_of_lt (by omega)) (Heap.get?_push_of_some _ q)), hl, C.has, C.nd, fun a ha => (C.hi a ha).1⟩
  first
  | exact q
  | simpa using q
theorem code_tuple_zip {n W : Nat} {ts : List Addr} {xss : Nat → Array Value} {cols : Nat → List Value} {Q₁ : Value → Shared → Prop} (hh : A.handled = none) (Z : Zst s.heap n ts xss 0 s.heap.objs.size)
    (hfr : s.heap.get? (n + ts.length + 2) = some (zipObj n ts.length .none (.bool false))) (hz : n + ts.length + 3 ≤ s.heap.objs.size) (hk : 0 < ts.length) (hsz : ts.length ≤ sizeLine) (hW : W ≤ sizeLine) (hW0 : 0 < W)
    (hcl : ∀ i, i < W → (cols i).length = ts.length) (hc : ∀ i, i < W → ∀ j, j < ts.length → (xss j)[i]? = (cols i)[j]?) (hend : (xss 0)[W]? = none)
    (hQ : ∀ h' as, Left s.heap h' n ts.length W cols as → Q₁ (.ref h'.objs.size) { s with heap := h'.push (tupObj (as.map Value.ref)) }) :
    codeAny (model prog w) A (.call (.builtin "tuple.__new__") ⟨[.type "tuple", .ref (n + ts.length + 2)], []⟩) (wants Q₁ E) s := by
  refine codeAny_of_tree ?_
  show wpAny _ A.in1 (do checkBuiltinCall "tuple.__new__" ⟨[.type "tuple", .ref (n + ts.length + 2)], []⟩; again (.builtin "tuple.__new__" ⟨[.type "tuple", .ref (n + ts.length + 2)], []⟩)) _ _ s
  refine wpAny_bind (wpAny_of_eq (F.newCall_tuple_1 _) (wpAny_pure ⟨plainId_quiet F.plain_tuple_new _, codeAny_builtin F.entry_tuple_new ?_⟩))
  rw [Around.under_plainId F.plain_tuple_new _]
  have hsub := sub_tuple_self
  have hinit := init_tuple_lookup
  have hmh := madeHere_tuple
  have hTI : s.TypeIs (.ref (n + ts.length + 2)) "zip" := Z.typeIs
  have hh1 : A.in1.handled = none := hh
  wp_walk using wpAny_typeOf hTI, collect_zip (A := A.in1) hh1 Z hfr hz hk hsz hW hW0 hcl hc hend
  intro h' as hl
  show wpAny _ _ (Builtin.Tuple.tupleExact (as.map Value.ref).toArray >>= fun v => ret v) _ _ _
  unfold Builtin.Tuple.tupleExact
  refine wpAny_bind (wpAny_newObj_type ?_ (by show (as.map Value.ref).toArray.size ≤ sizeLine; rw [List.size_toArray, List.length_map, hl.2.1]; exact hW))
  refine wpAny_pure ?_
  exact hQ h' as hl
theorem call_tuple_zip {n W : Nat} {ts : List Addr} {xss : Nat → Array Value} {cols : Nat → List Value} {Q : Value → Shared → Prop} (hh : A.handled = none) (Z : Zst s.heap n ts xss 0 s.heap.objs.size)
    (hfr : s.heap.get? (n + ts.length + 2) = some (zipObj n ts.length .none (.bool false))) (hz : n + ts.length + 3 ≤ s.heap.objs.size) (hk : 0 < ts.length) (hsz : ts.length ≤ sizeLine) (hW : W ≤ sizeLine) (hW0 : 0 < W)
    (hcl : ∀ i, i < W → (cols i).length = ts.length) (hc : ∀ i, i < W → ∀ j, j < ts.length → (xss j)[i]? = (cols i)[j]?) (hend : (xss 0)[W]? = none)
    (hQ : ∀ h' as, Left s.heap h' n ts.length W cols as → Q (.ref h'.objs.size) { s with heap := h'.push (tupObj (as.map Value.ref)) }) :
    wpAny (model prog w) A (call (.type "tuple") [.ref (n + ts.length + 2)]) Q E s := by
  refine callType_codes (Q₁ := fun obj s₁ => s₁.TypeIs obj "tuple" ∧ Q obj s₁) F.called_tuple (F.typeCall_tuple_1 _) F.entry_object_init
    (code_tuple_zip (A := A.in1) hh Z hfr hz hk hsz hW hW0 hcl hc hend fun h' as hl => ⟨⟨_, Heap.get?_push_size _ rfl, rfl⟩, hQ h' as hl⟩) fun obj s₁ h₁ => ?_
  exact ⟨h₁.1, F.args_object_init_2 obj _, object_init_meets F.called_tuple.init.lookup F.called_tuple.made (by decide) prog w A.in1 _ s₁ ⟨h₁.1, rfl, h₁.2⟩⟩
end
end ZN

set_option maxHeartbeats 1000000
namespace ZN
open PySem PySem.Spec PyProof.Rows L2
theorem callWith_typeS {M : Model} {A : Around} {E : Value → Shared → Prop} {s : Shared} {env : Env} {e : Expr} {p pos : Pos} {T : String} {Q : Value → Shared → Prop}
    (h : wpAny M A (eval e env) (fun v s₁ => PySem.W.StarOf M A E v (fun vs s₂ => wpAny M A (call (.type T) vs) Q E s₂) s₁) E s)
    (he : starEach [.Starred e p] env = [(true, eval e env)] := by rfl) :
    wpAny M A (callWith pos (.type T) [] (backTo pos (starEach [.Starred e p] env)) []) Q E s := by
  rw [he]
  unfold callWith
  refine wpAny_bind (wpAny_holding (wpAny_mono (PySem.W.ks_lone (Q := fun a s₂ => wpAny M A (call (.type T) ([] ++ a.pos) a.kw) Q E s₂) h) (fun a s₁ h₁ => wpAny_bind (wpAny_standAt ?_)) fun _ _ x => x))
  refine wpAny_bind (wpAny_pure ?_)
  exact wpAny_bind (wpAny_mono (wpAny_operating h₁) (fun r s₂ hr => wpAny_bind (wpAny_holding (wpAny_point (wpAny_pure hr)))) fun _ _ x => x)

/-- the column i -/
def colOf (rows : List (List V)) (i : Nat) : List V := rows.map fun r => r.getD i .non
/-- the values ls are tuples with these rows -/
def RowsAt (K : PySem.W.Frag) (H : Hp) (ls : List V) (rows : List (List V)) : Prop :=
  ls.length = rows.length ∧ ∀ (j : Nat) (r : List V), rows[j]? = some r → ∃ t, ls[j]? = some (.ref t) ∧ SqT K H t r
/-- a tuple of new tuples -/
def tZip (K : PySem.W.Frag) (te : TE) : TE := fun σ H Q => te σ H fun y H1 => ∃ (a : Addr) (ls : List V) (rows : List (List V)) (W : Nat), y = V.ref a ∧ (SqT K H1 a ls ∨ SqL K H1 a ls) ∧
  RowsAt K H1 ls rows ∧ rows ≠ [] ∧ 0 < W ∧ (∀ r ∈ rows, r.length = W) ∧
  ∀ (q : Addr) (as : List Addr) (H2 : Hp), Same H1 H2 → H1 q = none → H2 q = some (.tup (as.map V.ref)) → as.length = W → (∀ (j : Nat) (a : Addr), as[j]? = some a → H1 a = none ∧ H2 a = some (.tup (colOf rows j))) → Q (.ref q) H2

theorem vals_refs : ∀ as : List Addr, Vals (as.map V.ref) (as.map Value.ref)
  | [] => .nil
  | _ :: as => .cons rfl (vals_refs as)
theorem vals_of : ∀ {xs : List V} {us : List Value}, xs.length = us.length → (∀ (j : Nat) (x : V) (u : Value), xs[j]? = some x → us[j]? = some u → RelV x u) → Vals xs us
  | [], [], _, _ => .nil
  | x :: xs, u :: us, hl, h => .cons (h 0 x u rfl rfl) (vals_of (by simpa using hl) fun j x u e1 e2 => h (j + 1) x u (by simpa using e1) (by simpa using e2))
  | [], _ :: _, hl, _ => by simp at hl
  | _ :: _, [], hl, _ => by simp at hl
theorem vals_ref_of : ∀ {ls : List V} {us : List Value}, Vals ls us → (∀ v ∈ ls, ∃ t, v = V.ref t) → ∃ ts : List Addr, ls = ts.map V.ref ∧ us = ts.map Value.ref
  | _, _, .nil, _ => ⟨[], rfl, rfl⟩
  | _, _, .cons r rs, h => by
    obtain ⟨t, e⟩ := h _ List.mem_cons_self
    obtain ⟨ts, e1, e2⟩ := vals_ref_of rs fun v hv => h v (List.mem_cons_of_mem _ hv)
    subst e
    cases r
    exact ⟨t :: ts, by rw [e1]; rfl, by rw [e2]; rfl⟩
section
variable {X : Cx}
/-- the abstract heap with the new tuples -/
def layT (H : Hp) (as : List Addr) (cols : Nat → List V) : Hp := fun b => if b ∈ as then some (.tup (cols (as.idxOf b))) else H b
theorem pe_zip {e : Expr} {te : TE} {p p2 ps pos pos2 : Pos} (hc : X.calm = true) (hg : Gl X "tuple") (hm : X.mg "tuple" = none) (hg2 : Gl X "zip") (hm2 : X.mg "zip" = none) (he : PE X e te)
    (hs : starEach [.Starred e ps] X.env = [(true, eval e X.env)] := by rfl)
    (hs2 : starEach [.Call (.Name "zip" p2) [.Starred e ps] [] pos2] X.env = (false, eval (.Call (.Name "zip" p2) [.Starred e ps] [] pos2) X.env) :: starEach [] X.env := by rfl) :
    PE X (.Call (.Name "tuple" p) [.Call (.Name "zip" p2) [.Starred e ps] [] pos2] [] pos) (tZip X.K te) := by
  refine ⟨fun pins s σ H Q I h => ?_⟩
  refine Call_ (ld_blt I hg hm boot_tuple (PyProof.Rows.callWith_type1 (args_cons (Call_ (ld_blt I hg2 hm2 PyProof.Rows.boot_zip (callWith_typeS (thn (he.run pins s σ H _ I h) fun u s1 ⟨v, H1, I1, r1, q1⟩ => ?_) hs))) hs2) hs2 rfl))
  obtain ⟨a, ls, rows, W, ev, hx, ⟨hl, hr⟩, hne, hW0, hw, q⟩ := q1
  subst ev
  obtain rfl : u = Value.ref a := r1
  refine StX.star_any I1 hx fun us s2 I2 rv => ?_
  obtain ⟨ts, rfl, rfl⟩ := vals_ref_of rv fun v hv => by
    obtain ⟨j, hj⟩ := List.getElem?_of_mem hv
    have hjr : j < rows.length := by rw [← hl]; exact (List.getElem?_eq_some_iff.mp hj).1
    obtain ⟨t, et, _⟩ := hr j rows[j] (List.getElem?_eq_getElem hjr)
    rw [hj] at et
    exact ⟨t, Option.some.inj et⟩
  rw [List.length_map] at hl
  have hk : 0 < ts.length := by rw [hl]; exact List.length_pos_iff.mpr hne
  have hsrc : ∀ j : Nat, ∃ its : List Value, ∀ (t : Addr) (r : List V), ts[j]? = some t → rows[j]? = some r → Vals r its ∧ IsTup s2.heap t its.toArray ∧ r.length ≤ sizeLine := fun j => by
    cases er : rows[j]? with
    | none => exact ⟨[], fun t r _ e => nomatch e⟩
    | some r =>
      obtain ⟨t, et, ht⟩ := hr j r er
      obtain ⟨its, rv, pt, hz⟩ := I2.tuple ht
      refine ⟨its, fun t' r' e1 e2 => ?_⟩
      rw [List.getElem?_map, e1] at et
      cases et; cases e2
      exact ⟨rv, pt, hz⟩
  obtain ⟨f, hf⟩ := Classical.axiomOfChoice hsrc
  have rowj : ∀ j, j < ts.length → ∃ t r, ts[j]? = some t ∧ rows[j]? = some r := fun j hj => ⟨_, _, List.getElem?_eq_getElem hj, List.getElem?_eq_getElem (by rw [← hl]; exact hj)⟩
  have flen : ∀ j, j < ts.length → (f j).length = W := fun j hj => by
    obtain ⟨t, r, e1, e2⟩ := rowj j hj
    rw [← (hf j t r e1 e2).1.length]
    exact hw r (List.mem_of_getElem? e2)
  have hWz : W ≤ sizeLine := by
    obtain ⟨t, r, e1, e2⟩ := rowj 0 hk
    rw [← hw r (List.mem_of_getElem? e2)]
    exact (hf 0 t r e1 e2).2.2
  have hsz : ts.length ≤ sizeLine := by
    rcases hx with hx | hx
    · obtain ⟨_, _, _, z⟩ := I1.tuple hx; simpa using z
    · obtain ⟨_, _, _, z⟩ := I1.list hx; simpa using z
  have htup : ∀ (j : Nat) (t : Addr), ts[j]? = some t → IsTup s2.heap t (f j).toArray := fun j t e => by
    obtain ⟨t', r, e1, e2⟩ := rowj j (List.getElem?_eq_some_iff.mp e).1
    rw [e] at e1; cases e1
    exact (hf j t r e e2).2.1
  refine begins ts hsz (fun t ht => by obtain ⟨j, hj⟩ := List.getElem?_of_mem ht; exact ⟨_, htup j t hj⟩) fun h' hzip hTI hTO hits hsize hkk => args_nil ?_
  have hfin : ∀ j, j < ts.length → (f j).toArray[W]? = none := fun j hj => by simp [flen j hj]
  refine call_tuple_zip (s := { s2 with heap := h' }) (n := s2.heap.objs.size) (W := W) (ts := ts) (xss := fun j => (f j).toArray) (cols := fun i => (List.range ts.length).map fun j => (f j).getD i .none) (I2.ok.hd hc)
    ⟨⟨fun j t e => ⟨_, hits j t e, rfl, rfl⟩, fun j t e => let ⟨o, ho, r⟩ := htup j t e; ⟨o, hkk _ _ ho, r⟩, fun t ht => by
      obtain ⟨j, hj⟩ := List.getElem?_of_mem ht
      obtain ⟨o, ho, _⟩ := htup j t hj
      exact Heap.lt_size ho⟩, hTI, .inl ⟨rfl, hzip, hTO⟩⟩ hzip (Nat.le_of_eq hsize.symm) hk hsz hWz hW0 (fun i _ => by simp) (fun i hi j hj => ?_) (hfin 0 hk) fun h2 as hleft => ?_
  · have hi' : i < (f j).length := by rw [flen j hj]; exact hi
    simp [hj, hi']
  · obtain ⟨k2, hasl, hhas, hnd, hlo⟩ := hleft
    have kk : ∀ b o, s2.heap.get? b = some o → (h2.push (tupObj (as.map Value.ref))).get? b = some o := fun b o e =>
      Heap.get?_push_of_some _ (k2 b o (Heap.lt_size e) (hkk b o e))
    have fresh : ∀ b, s2.heap.objs.size ≤ b → H1 b = none := fun b hb => I2.hok.fresh hb
    have aslt : ∀ b ∈ as, b < h2.objs.size := fun b hb => by
      obtain ⟨j, hj⟩ := List.getElem?_of_mem hb
      exact Heap.lt_size (hhas j b hj)
    have aslo : ∀ b ∈ as, s2.heap.objs.size ≤ b := fun b hb => Nat.le_trans (by omega) (hlo b hb)
    have hlast : ∃ b, b ∈ as := by
      cases as with
      | nil => simp at hasl; omega
      | cons b _ => exact ⟨b, List.mem_cons_self⟩
    have hq : s2.heap.objs.size ≤ h2.objs.size := by
      obtain ⟨b, hb⟩ := hlast
      exact Nat.le_of_lt (Nat.lt_of_le_of_lt (aslo b hb) (aslt b hb))
    have hqa : h2.objs.size ∉ as := fun hb => Nat.lt_irrefl _ (aslt _ hb)
    let HT : Hp := layT H1 as (colOf rows)
    have eT : ∀ b, b ∉ as → HT b = H1 b := fun b hb => if_neg hb
    have eA : ∀ (j : Nat) (b : Addr), as[j]? = some b → HT b = some (.tup (colOf rows j)) := fun j b e => by
      obtain ⟨hj, rfl⟩ := List.getElem?_eq_some_iff.mp e
      show (if as[j] ∈ as then some (HO.tup (colOf rows (as.idxOf as[j]))) else H1 as[j]) = _
      rw [if_pos (List.getElem_mem hj), List.Nodup.idxOf_getElem hnd j hj]
    have same1 : Same H1 HT := fun b o e => by rw [eT b fun hb => by rw [fresh b (aslo b hb)] at e; cases e]; exact e
    have hTq : HT h2.objs.size = none := by rw [eT _ hqa]; exact fresh _ hq
    let H2 : Hp := upd HT h2.objs.size (.tup (as.map V.ref))
    have same2 : Same H1 H2 := fun b o e => by
      show upd HT h2.objs.size _ b = _
      rw [upd_ne (fun q => by subst q; rw [fresh _ hq] at e; cases e)]
      exact same1 b o e
    have e2 : ∀ b, b < s2.heap.objs.size → H2 b = H1 b := fun b hb => by
      show upd HT h2.objs.size _ b = _
      rw [upd_ne (Nat.ne_of_lt (Nat.lt_of_lt_of_le hb hq)), eT b fun m => Nat.lt_irrefl _ (Nat.lt_of_lt_of_le hb (aslo b m))]
    have un : Un X.fs [] H1 H2 s2.heap (h2.push (tupObj (as.map Value.ref))) :=
      ⟨fun b o q _ _ _ => kk b o q, fun b o q _ _ _ => ⟨o.slots, kk b o q⟩, fun b o q n _ => by rw [e2 b (Heap.lt_size q)]; exact n, fun b o q _ => ⟨o, kk b o q⟩,
        fun b xs q => same2 b _ q, fun b o u q => same2 b _ q, fun b ps q => ⟨#[], by rw [same2 b _ q]; simp⟩⟩
    have hok : HOk X.prog X.w H2 (h2.push (tupObj (as.map Value.ref))) := fun b u e => by
      by_cases hb : b = h2.objs.size
      · subst hb
        have e' : u = .tup (as.map V.ref) := by
          have : H2 h2.objs.size = some (.tup (as.map V.ref)) := upd_same
          rw [this] at e; exact (Option.some.inj e).symm
        subst e'
        exact ⟨by rw [List.length_map, hasl]; exact hWz, as.map Value.ref, vals_refs as, _, Heap.get?_push_size _ rfl, rfl, _, rfl⟩
      · by_cases hm : b ∈ as
        · obtain ⟨j, hj⟩ := List.getElem?_of_mem hm
          have e' : u = .tup (colOf rows j) := by
            have : H2 b = some (.tup (colOf rows j)) := (upd_ne hb).trans (eA j b hj)
            rw [this] at e; exact (Option.some.inj e).symm
          subst e'
          have hjW : j < W := by rw [← hasl]; exact (List.getElem?_eq_some_iff.mp hj).1
          refine ⟨by simp only [colOf, List.length_map]; rw [← hl]; exact hsz, _, ?_, _, Heap.get?_push_of_some _ (hhas j b hj), rfl, _, rfl⟩
          refine vals_of (by simp [colOf, hl]) fun m x v ex ev => ?_
          simp only [colOf, List.getElem?_map, Option.map_eq_some_iff] at ex
          obtain ⟨r, er, rfl⟩ := ex
          have hm2 : m < ts.length := by rw [hl]; exact (List.getElem?_eq_some_iff.mp er).1
          obtain ⟨t, r', et, er'⟩ := rowj m hm2
          rw [er] at er'; cases er'
          have rv2 := (hf m t r et er).1
          have hr2 : r[j]? = some (r.getD j .non) := by
            have : j < r.length := by rw [hw r (List.mem_of_getElem? er)]; exact hjW
            simp [this]
          obtain ⟨u2, hu2, rr⟩ := rv2.get hr2
          have : v = u2 := by
            simp [hm2] at ev
            rw [← ev, hu2]; rfl
          subst this
          exact rr
        · have e1 : H1 b = some u := by
            have : H2 b = H1 b := (upd_ne hb).trans (eT b hm)
            rw [this] at e; exact e
          exact (I2.hok b u e1).stay (fun c o _ q => kk c o q) (fun c q => same2 c _ q) fun c xs q => same2 c _ q
    have I3 := I2.un (t' := s2.toks) un hok
    exact ⟨.ref h2.objs.size, H2, I3, rfl, q h2.objs.size as H2 same2 (fresh _ hq) upd_same hasl fun j b e => ⟨fresh b (aslo b (List.mem_of_getElem? e)), (upd_ne (fun z => hqa (by rw [← z]; exact List.mem_of_getElem? e))).trans (eA j b e)⟩⟩
end
end ZN

set_option maxHeartbeats 1000000
namespace ZN
open PySem PySem.Spec PyProof.Rows L2
/-! ### zip(x, y), enumerate(x): lists and tuples in any mix (k: a tuple) -/
def SqK (k : Bool) (K : PySem.W.Frag) (H : Hp) (a : Addr) (xs : List V) : Prop := if k = true then SqT K H a xs else SqL K H a xs
def ItK (k : Bool) (h : Heap) (it a : Addr) (i : Nat) : Prop := if k = true then h.IsTupleIter it a i else h.IsListIter it a i
def SeK (k : Bool) (h : Heap) (a : Addr) (xs : Array Value) : Prop := if k = true then h.IsTuple a xs else h.IsList a xs
def itObjK (k : Bool) (a : Addr) : Obj := if k = true then { cls := .type "tuple_iterator", data := .fields #[.ref a, .int 0 0] } else { cls := .type "list_iterator", data := .fields #[.ref a, .int 0 0] }
theorem itK_obj {k : Bool} {h : Heap} {it a : Addr} (e : h.get? it = some (itObjK k a)) : ItK k h it a 0 := by
  cases k
  · exact ⟨_, e, rfl, rfl⟩
  · exact ⟨_, e, rfl, rfl⟩
theorem beginsK (k : Bool) (a : Addr) (xs : Array Value) : Begins (.ref a) (itObjK k a) fun h => SeK k h a xs := by
  cases k
  · exact begins_list a xs
  · exact begins_tuple a xs
theorem drawsK {prog : Program} {w : World} {A : Around} (k : Bool) (hh : A.handled = none) (it a : Addr) (hne : a ≠ it) (xs : Array Value) :
    Draws prog w A it [it, a] xs.size (fun i v => xs[i]? = some v) (fun i h => ItK k h it a i ∧ SeK k h a xs) := by
  cases k
  · exact Draws.list hh it a hne xs
  · exact Draws.tuple hh it a hne xs
theorem ItK.at {k : Bool} {h h' : Heap} {it a : Addr} {i : Nat} (x : ItK k h it a i) (e : ∀ o, h.get? it = some o → h'.get? it = some o) : ItK k h' it a i := by
  cases k
  · exact Heap.IsListIter.at x e
  · exact Heap.IsTupleIter.at x e
theorem ItK.live {k : Bool} {h : Heap} {it a : Addr} {i : Nat} (x : ItK k h it a i) : ∃ o, h.get? it = some o ∧ ∀ v, o.data ≠ .cell v := by
  cases k
  · obtain ⟨o, e, _, d⟩ := x
    exact ⟨o, e, fun v q => by rw [d] at q; cases q⟩
  · obtain ⟨o, e, _, d⟩ := x
    exact ⟨o, e, fun v q => by rw [d] at q; cases q⟩
section
variable {X : Cx} {pins : List (Addr × Obj)} {σ : L2.St} {H : Hp} {s : Shared} {a : Addr} {xs ys : List V} {k : Bool}
theorem seqK (I : Inv X pins σ H s) (h : SqK k X.K H a xs) : ∃ its : List Value, Vals xs its ∧ SeK k s.heap a its.toArray ∧ a < s.heap.objs.size := by
  cases k
  · obtain ⟨its, r, p, _⟩ := I.list h
    exact ⟨its, r, p.isList, p.lt⟩
  · obtain ⟨its, r, p, _⟩ := I.tuple h
    exact ⟨its, r, p, p.lt⟩
theorem injK (I : Inv X pins σ H s) (h : SqK k X.K H a xs) (h2 : SqK k X.K H a ys) : xs = ys := by
  cases k
  · exact I.list_inj h h2
  · exact I.tuple_inj h h2
end
def Itz2 (K : PySem.W.Frag) (k1 k2 : Bool) (a b : Addr) : It :=
  ⟨fun i H => ∃ (xs ys : List V) (x y : V), SqK k1 K H a xs ∧ SqK k2 K H b ys ∧ xs[i]? = some x ∧ ys[i]? = some y,
    fun i H v H' => ∃ T x y, v = .ref T ∧ H T = none ∧ H' = upd H T (.tup [x, y]) ∧ (∀ xs, SqK k1 K H a xs → xs[i]? = some x) ∧ ∀ ys, SqK k2 K H b ys → ys[i]? = some y,
    fun i H => ∃ xs ys : List V, SqK k1 K H a xs ∧ SqK k2 K H b ys ∧ (xs.length = i ∨ ys.length = i) ∧ i ≤ xs.length ∧ i ≤ ys.length⟩
theorem turn_zip2 {P : Program} {w : World} {K : PySem.W.Frag} {elts : List Expr} {kk : Nat} {tpos : Pos} {k1 k2 : Bool} {a b z TI TO i1 i2 : Addr} (S : ZipSep2 z TI TO i1 i2 [i1, a] [i2, b]) (hai : a ≠ i1) (hbi : b ≠ i2) :
    Turn P w K (.Tuple elts kk tpos) (Itz2 K k1 k2 a b) [z, TI, TO, i1, i2] z (fun i h => IsZip h z TI TO .none ∧ IsTupOf2 h TI (.ref i1) (.ref i2) ∧ (∃ x y, IsTupOf2 h TO x y) ∧ ItK k1 h i1 a i ∧ ItK k2 h i2 b i) where
  mem := by simp
  obj := fun i h st c hc => by
    obtain ⟨hz, hTI, ⟨x, y, hTO⟩, h1, h2⟩ := st
    have e' : c = z ∨ c = TI ∨ c = TO ∨ c = i1 ∨ c = i2 := by simpa using hc
    rcases e' with q | q | q | q | q
    · rw [q]; exact ⟨_, hz, fun v q => nomatch q⟩
    · rw [q]; exact ⟨_, hTI, fun v q => nomatch q⟩
    · rw [q]; exact ⟨_, hTO, fun v q => nomatch q⟩
    · rw [q]; exact h1.live
    · rw [q]; exact h2.live
  keep := fun i h h' st k => by
    obtain ⟨hz, hTI, ⟨x, y, hTO⟩, h1, h2⟩ := st
    exact ⟨k z (by simp) _ hz, k TI (by simp) _ hTI, ⟨x, y, k TO (by simp) _ hTO⟩, h1.at fun o q => k i1 (by simp) o q, h2.at fun o q => k i2 (by simp) o q⟩
  item := by
    intro X hP hw hK hc i pins s σ H E I hf st hg
    subst hP hw hK
    obtain ⟨hz, hTI, ⟨x0, y0, hTO⟩, h1, h2⟩ := st
    obtain ⟨xs, ys, x, y, hqx, hqy, hx, hy⟩ := hg
    obtain ⟨its, rv, p, la⟩ := seqK I hqx
    obtain ⟨its2, rv2, p2, lb⟩ := seqK I hqy
    obtain ⟨u, hu, ru⟩ := rv.get hx
    obtain ⟨u2, hu2, ru2⟩ := rv2.get hy
    have hzl : z < s.heap.objs.size := Heap.lt_size hz
    have hh : X.A.in1.handled = none := I.ok.hd hc
    refine wpAny_pyNext_zipD2_item S (drawsK k1 hh i1 a hai its.toArray) (drawsK k2 hh i2 b hbi its2.toArray) hz hTI hTO ⟨h1, p⟩ ⟨h2, p2⟩ (by simpa using (List.getElem?_eq_some_iff.mp hu).1) (by simpa using (List.getElem?_eq_some_iff.mp hu2).1) fun x1 x2 h' tk e1 e2 z' TO' st1 st2 hT hsz hk => ?_
    obtain rfl : u = x1 := by
      have : its[i]? = some x1 := by simpa using e1
      rw [hu] at this; exact Option.some.inj this
    obtain rfl : u2 = x2 := by
      have : its2[i]? = some x2 := by simpa using e2
      rw [hu2] at this; exact Option.some.inj this
    refine ⟨_, rfl, wpAny_letOwnedTupleGo_zip (s := { s with heap := h', toks := tk }) z' fun h'' z'' sb => ?_⟩
    have hT2 : h''.get? s.heap.objs.size = some { cls := .type "tuple", data := .seq #[u, u2] } := (sb.2 _ (Nat.ne_of_gt hzl)).trans hT
    have new : ObjOk X.prog X.w (upd H s.heap.objs.size (.tup [x, y])) h'' s.heap.objs.size (.tup [x, y]) :=
      ⟨by show 2 ≤ sizeLine; decide, [u, u2], .cons ru (.cons ru2 .nil), ⟨_, hT2, rfl, _, rfl⟩⟩
    have I1 : Inv X pins σ (upd H s.heap.objs.size (.tup [x, y])) { s with heap := h'', toks := tk } :=
      I.turnedNew (t' := tk) (ch := [z, TI, TO, i1, i2]) (fun c o hb q => (sb.2 c (fun q' => hb (by simp [q']))).trans (hk c o (fun q' => hb (by simp [q'])) (fun q' => hb (by simp [q'])) (fun q' => hb (by simp [q'])) (fun q' => hb (by simp [q'])) q)) hf (Nat.le_refl _) new
    refine ⟨.ref s.heap.objs.size, _, I1, rfl, ⟨_, x, y, rfl, I.hok.fresh (Nat.le_refl _), rfl, fun l hl => by rw [injK I hl hqx]; exact hx, fun l hl => by rw [injK I hl hqy]; exact hy⟩, ⟨z'', ?_, ⟨u, u2, ?_⟩, ?_, ?_⟩, fun c hcm => ?_⟩
    · exact (sb.2 _ S.TIz).trans (hk _ _ S.TIz S.TITO S.TIi1 S.TIi2 hTI)
    · exact (sb.2 _ S.TOz).trans TO'
    · exact st1.1.at fun o q => (sb.2 _ S.zi1.symm).trans q
    · exact st2.1.at fun o q => (sb.2 _ S.zi2.symm).trans q
    · have hlt : c < s.heap.objs.size := by
        have e' : c = z ∨ c = TI ∨ c = TO ∨ c = i1 ∨ c = i2 := by simpa using hcm
        rcases e' with q | q | q | q | q
        · rw [q]; exact hzl
        · rw [q]; exact Heap.lt_size hTI
        · rw [q]; exact Heap.lt_size hTO
        · rw [q]; obtain ⟨_, e1, _⟩ := h1.live; exact Heap.lt_size e1
        · rw [q]; obtain ⟨_, e1, _⟩ := h2.live; exact Heap.lt_size e1
      rw [upd_ne (Nat.ne_of_lt hlt)]
      exact (hf c hcm).1
  done := by
    intro X hP hw hK hc i pins s σ H E I hf st hg
    subst hP hw hK
    obtain ⟨hz, hTI, ⟨x0, y0, hTO⟩, h1, h2⟩ := st
    obtain ⟨xs, ys, hqx, hqy, hend, hle1, hle2⟩ := hg
    obtain ⟨its, rv, p, _⟩ := seqK I hqx
    obtain ⟨its2, rv2, p2, _⟩ := seqK I hqy
    have l1 := rv.length
    have l2 := rv2.length
    have hh : X.A.in1.handled = none := I.ok.hd hc
    exact wpAny_pyNext_zipD2_end S (drawsK k1 hh i1 a hai its.toArray) (drawsK k2 hh i2 b hbi its2.toArray) hz hTI hTO ⟨h1, p⟩ ⟨h2, p2⟩ (by simp; omega) (by simp; omega) (by simp; omega) fun h' tk hk => ⟨rfl, I.turnedL (t' := tk) (ch := [z, TI, TO, i1, i2]) (fun c o hb q =>
      hk c o (fun q' => hb (by simp [q'])) (fun q' => hb (by simp [q'])) (fun q' => hb (by simp [q'])) (fun q' => hb (by simp [q'])) q) hf⟩
  self := fun A i s Q E st h => wpAny_pyIter_zip st.1 h
def iZip2 (K : PySem.W.Frag) (ta : TA) : TI := fun σ H R => ta σ H fun vs H1 => ∃ k1 k2 a b xs ys, vs = [.ref a, .ref b] ∧ SqK k1 K H1 a xs ∧ SqK k2 K H1 b ys ∧ R (Itz2 K k1 k2 a b) H1
theorem pi_zip2 {X : Cx} {e e2 : Expr} {ta : TA} {p pos tpos : Pos} {elts : List Expr} {kk : Nat} (hg : Gl X "zip") (hm : X.mg "zip" = none) (ha : PA X [e, e2] ta)
    (hs : starEach [e, e2] X.env = (false, eval e X.env) :: starEach [e2] X.env := by rfl) (hpl : (backTo pos (starEach [e2] X.env)).any (·.1) = false := by rfl) :
    PI X (.Tuple elts kk tpos) (.Call (.Name "zip" p) [e, e2] [] pos) (iZip2 X.K ta) := by
  refine ⟨fun pins s σ H R I h => ?_⟩
  refine Call_ (ld_blt I hg hm PyProof.Rows.boot_zip (PyProof.Rows.callWith_type1 (thn (ha.run pos pins s σ H _ I h) fun us s1 ⟨vs, H1, I1, r1, q1⟩ => ?_) hs hpl))
  obtain ⟨k1, k2, a, b, xs, ys, ex, hqx, hqy, q⟩ := q1
  subst ex
  cases r1 with
  | cons r rr =>
    cases rr with
    | cons r' rr =>
      cases rr
      cases r
      cases r'
      obtain ⟨its, rv, p1, la⟩ := seqK I1 hqx
      obtain ⟨its2, rv2, p2, lb⟩ := seqK I1 hqy
      refine zip_begins2 (beginsK k1 a its.toArray) (beginsK k2 b its2.toArray) p1 p2 fun h' hz hTI hTO h1 h2 hsz hk => wpAny_pyIter_zip hz ?_
      have I2 : Inv X pins σ H1 { s1 with heap := h' } := I1.kept (t' := s1.toks) hk
      refine ⟨s1.heap.objs.size + 4, [s1.heap.objs.size + 4, s1.heap.objs.size + 2, s1.heap.objs.size + 3, s1.heap.objs.size, s1.heap.objs.size + 1], _, _, H1, rfl, I2,
        turn_zip2 (k1 := k1) (k2 := k2) (a := a) (b := b) (zip_sep2 (fun c hc => (List.mem_singleton.mp hc).symm ▸ la) (fun c hc => (List.mem_singleton.mp hc).symm ▸ lb)) (Nat.ne_of_lt la) (Nat.ne_of_lt (Nat.lt_succ_of_lt lb)),
        ⟨hz, hTI, ⟨_, _, hTO⟩, itK_obj h1, itK_obj h2⟩, fun c hcm => ?_, q⟩
      have e' : c = s1.heap.objs.size + 4 ∨ c = s1.heap.objs.size + 2 ∨ c = s1.heap.objs.size + 3 ∨ c = s1.heap.objs.size ∨ c = s1.heap.objs.size + 1 := by simpa using hcm
      have hle : s1.heap.objs.size ≤ c := by
        rcases e' with z | z | z | z | z
        · rw [z]; exact Nat.le_add_right _ _
        · rw [z]; exact Nat.le_add_right _ _
        · rw [z]; exact Nat.le_add_right _ _
        · rw [z]; exact Nat.le_refl _
        · rw [z]; exact Nat.le_add_right _ _
      exact I1.fpOk hle (I1.hok.fresh hle)
theorem walk_zip2 {K : PySem.W.Frag} {k1 k2 : Bool} {a b : Addr} {xs ys : List V} {n : Nat} (hn : n = min xs.length ys.length) :
    Walk (Itz2 K k1 k2 a b) n (fun H => SqK k1 K H a xs ∧ SqK k2 K H b ys) (YPair (fun i => xs[i]?) (fun i => ys[i]?)) := by
  subst hn
  refine ⟨fun i _ hi q => ?_, fun _ q => ⟨xs, ys, q.1, q.2, by omega, by omega, by omega⟩, fun i H v H' _ q y => ?_⟩
  · have h1 : i < xs.length := by omega
    have h2 : i < ys.length := by omega
    exact ⟨xs, ys, xs[i], ys[i], q.1, q.2, by simp [h1], by simp [h2]⟩
  · obtain ⟨T, x, z, h1, h2, h3, h4, h5⟩ := y
    exact ⟨T, x, z, h1, h2, h3, h4 xs q.1, h5 ys q.2⟩

/-! ### enumerate(x) -/
theorem meets_enumerate_newT (l : Addr) (items : Array Value) (n : Nat) (dct : Option Addr) (sl : Array (Option Value)) :
    Meets (Builtin.«enumerate.__new__» ⟨[.type "enumerate", .ref l], []⟩) (fun _ R s => s.heap.get? l = some { cls := .type "tuple", dict := dct, data := .seq items n, slots := sl } ∧
      R (.ok (.ret (.ref (s.heap.push { cls := .type "tuple_iterator", data := .fields #[.ref l, .int 0 0] }).objs.size)))
        { s with heap := (s.heap.push { cls := .type "tuple_iterator", data := .fields #[.ref l, .int 0 0] }).push { cls := .type "enumerate", data := .fields #[.none, .bool false, .ref s.heap.objs.size, rawInt 0, .none, .none] } }) :=
  .of_wp fun prog w A R s h => by
    obtain ⟨hp, g, d, tk, os⟩ := s; obtain ⟨hl, h⟩ := h
    have hsub := sub_enumerate
    have hL : Heap.IsTuple (Shared.heap ⟨hp, g, d, tk, os⟩) l items := ⟨_, hl, rfl, n, rfl⟩
    wp_walk using AutoSeq1.wpAny_loadPart' hl
    refine wpAny_stack_any fun st => wpAny_pure ?_
    split
    · rename_i c _ _ _ _ _
      cases (c == Value.type "enumerate")
      · wp_walk using AutoSeq1.wpAny_loadPart' hl, wpAny_pyIter_tuple hL
        exact ⟨_, rfl, h⟩
      · wp_walk using AutoSeq1.wpAny_loadPart' hl, wpAny_pyIter_tuple hL
        exact ⟨_, rfl, h⟩
    · wp_walk using AutoSeq1.wpAny_loadPart' hl, wpAny_pyIter_tuple hL
      exact ⟨_, rfl, h⟩
section
variable {prog : Program} {w : World} {A : Around} {E : Value → Shared → Prop} {s : Shared}
theorem call_enumerateK {k : Bool} {l : Addr} {items : Array Value} {Q : Value → Shared → Prop} (hL : SeK k s.heap l items)
    (h : ∀ h', IsEnum h' (s.heap.objs.size + 1) s.heap.objs.size 0 .none → ItK k h' s.heap.objs.size l 0 → h'.objs.size = s.heap.objs.size + 2 →
      (∀ b o, s.heap.get? b = some o → h'.get? b = some o) → Q (.ref (s.heap.objs.size + 1)) { s with heap := h' }) :
    wpAny (model prog w) A (call (.type "enumerate") [.ref l]) Q E s := by
  cases k
  · exact call_enumerate_list hL h
  · obtain ⟨⟨c, dct, dt, sl⟩, hl, hc, n, hd⟩ := hL
    replace hc : c = .type "tuple" := hc
    replace hd : dt = .seq items n := hd
    subst hc hd
    refine callType_new F.called_enumerate (by decide) (F.typeCall_enumerate_1 _) (F.newCall_enumerate_1 _) (fun obj => F.args_object_init_2 obj _) F.entry_enumerate_new
      (meets_enumerate_newT l items n dct sl) ⟨hl, ?_⟩
    have hz : (s.heap.push { cls := .type "tuple_iterator", data := .fields #[.ref l, .int 0 0] }).objs.size = s.heap.objs.size + 1 := Heap.size_push ..
    show _ ∧ _
    rw [hz]
    have he : IsEnum ((s.heap.push { cls := .type "tuple_iterator", data := .fields #[.ref l, .int 0 0] }).push
        { cls := .type "enumerate", data := .fields #[.none, .bool false, .ref s.heap.objs.size, rawInt 0, .none, .none] }) (s.heap.objs.size + 1) s.heap.objs.size 0 .none := by
      have := Heap.get?_push_size (s.heap.push { cls := .type "tuple_iterator", data := .fields #[.ref l, .int 0 0] })
        (o := { cls := .type "enumerate", data := .fields #[.none, .bool false, .ref s.heap.objs.size, rawInt 0, .none, .none] }) rfl
      rw [hz] at this; exact this
    refine ⟨⟨_, he, rfl⟩, h _ he ⟨_, Heap.get?_push_of_some _ (Heap.get?_push_size _ rfl), rfl, rfl⟩ (by rw [Heap.size_push, hz]) fun b o x => Heap.get?_push_of_some _ (Heap.get?_push_of_some _ x)⟩
end
def IteK (K : PySem.W.Frag) (k : Bool) (a : Addr) : It :=
  ⟨fun i H => ∃ (xs : List V) (x : V), SqK k K H a xs ∧ xs[i]? = some x, fun i H v H' => ∃ T x, v = .ref T ∧ H T = none ∧ H' = upd H T (.tup [.int (i : Nat), x]) ∧ ∀ xs, SqK k K H a xs → xs[i]? = some x, fun i H => ∃ xs : List V, SqK k K H a xs ∧ xs.length = i⟩
theorem turn_enumK {P : Program} {w : World} {K : PySem.W.Frag} {elts : List Expr} {kk : Nat} {tpos : Pos} (k : Bool) (a e it : Addr) (hae : a ≠ e) (hai : a ≠ it) :
    Turn P w K (.Tuple elts kk tpos) (IteK K k a) [e, it] e (fun i h => (∃ old, IsEnum h e it ((i : Nat) : Int) old) ∧ ItK k h it a i ∧ e ≠ it) where
  mem := by simp
  obj := fun i h st b hb => by
    obtain ⟨⟨old, he⟩, hi, _⟩ := st
    have e' : b = e ∨ b = it := by simpa using hb
    rcases e' with z | z
    · rw [z]; exact ⟨_, he, fun v q => nomatch q⟩
    · rw [z]; exact hi.live
  keep := fun i h h' st k => let ⟨⟨old, he⟩, hi, hne⟩ := st; ⟨⟨old, k e (by simp) _ he⟩, hi.at fun o q => k it (by simp) o q, hne⟩
  item := by
    intro X hP hw hK hc i pins s σ H E I hf st hg
    subst hP hw hK
    obtain ⟨⟨old, he⟩, hit, hne⟩ := st
    obtain ⟨xs, x, hq, hx⟩ := hg
    obtain ⟨its, rv, p, _⟩ := seqK I hq
    obtain ⟨u, hu, ru⟩ := rv.get hx
    have hel : e < s.heap.objs.size := Heap.lt_size he
    have hil : it < s.heap.objs.size := by obtain ⟨_, q, _⟩ := hit.live; exact Heap.lt_size q
    have hh : X.A.in1.handled = none := I.ok.hd hc
    refine wpAny_pyNext_enum_itemD (drawsK k hh it a hai its.toArray) he ⟨hit, p⟩ (by simpa using (List.getElem?_eq_some_iff.mp hu).1) hne (by simp [hne, Ne.symm hae]) fun x1 h' tk e1 ho st1 hT hsz hk => ?_
    obtain rfl : u = x1 := by
      have : its[i]? = some x1 := by simpa using e1
      rw [hu] at this; exact Option.some.inj this
    refine ⟨_, rfl, wpAny_letOwnedTupleGo_enum (s := { s with heap := h', toks := tk + 1 }) ho fun h'' he' sb => ?_⟩
    have hT2 : h''.get? s.heap.objs.size = some { cls := .type "tuple", data := .seq #[.int i tk, u] } := (sb.2 _ (Nat.ne_of_gt hel)).trans hT
    have new : ObjOk X.prog X.w (upd H s.heap.objs.size (.tup [.int (i : Nat), x])) h'' s.heap.objs.size (.tup [.int (i : Nat), x]) :=
      ⟨by show 2 ≤ sizeLine; decide, [.int i tk, u], .cons ⟨_, rfl⟩ (.cons ru .nil), ⟨_, hT2, rfl, _, rfl⟩⟩
    have I1 : Inv X pins σ (upd H s.heap.objs.size (.tup [.int (i : Nat), x])) { s with heap := h'', toks := tk + 1 } :=
      I.turnedNew (ch := [e, it]) (fun b ob hb q => (sb.2 b (fun z => hb (by simp [z]))).trans (hk b ob (fun z => hb (by simp [z])) (fun z => hb (by simp [z])) q)) hf (Nat.le_refl _) new
    refine ⟨.ref s.heap.objs.size, _, I1, rfl, ⟨_, x, rfl, I.hok.fresh (Nat.le_refl _), rfl, fun ys hy => by rw [injK I hy hq]; exact hx⟩, ⟨⟨u, ?_⟩, st1.1.at fun o q => (sb.2 it (Ne.symm hne)).trans q, hne⟩, fun b hb => ?_⟩
    · have e1 : ((i + 1 : Nat) : Int) = (i : Int) + 1 := by omega
      rw [e1]; exact he'
    · have hb' : b < s.heap.objs.size := by
        have e' : b = e ∨ b = it := by simpa using hb
        rcases e' with z | z
        · rw [z]; exact hel
        · rw [z]; exact hil
      rw [upd_ne (Nat.ne_of_lt hb')]
      exact (hf b hb).1
  done := by
    intro X hP hw hK hc i pins s σ H E I hf st hg
    subst hP hw hK
    obtain ⟨⟨old, he⟩, hit, hne⟩ := st
    obtain ⟨xs, hq, hx⟩ := hg
    obtain ⟨its, rv, p, _⟩ := seqK I hq
    obtain ⟨f0, f1, f2, f3, f4, f5⟩ := hf it (by simp)
    have hh : X.A.in1.handled = none := I.ok.hd hc
    have hl := rv.length
    have ei : i = its.toArray.size := by simp; omega
    subst ei
    exact wpAny_pyNext_enum_endD (drawsK k hh it a hai its.toArray) he ⟨hit, p⟩ fun h' eb => ⟨rfl, I.turned (t' := s.toks) (fun b o hb q => eb b o hb q) f0 f1 f3 f4 f5⟩
  self := fun A i s Q E st h => let ⟨⟨_, he⟩, _⟩ := st; wpAny_pyIter_enum he h
def iEnumK (K : PySem.W.Frag) (ta : TA) : TI := fun σ H R => ta σ H fun vs H1 => ∃ k a xs, vs = [.ref a] ∧ SqK k K H1 a xs ∧ R (IteK K k a) H1
theorem pi_enumK {X : Cx} {e : Expr} {ta : TA} {p pos tpos : Pos} {elts : List Expr} {kk : Nat} (hg : Gl X "enumerate") (hm : X.mg "enumerate" = none) (ha : PA X [e] ta) (hs : starEach [e] X.env = [(false, eval e X.env)] := by rfl) :
    PI X (.Tuple elts kk tpos) (.Call (.Name "enumerate" p) [e] [] pos) (iEnumK X.K ta) := by
  refine ⟨fun pins s σ H R I h => ?_⟩
  refine Call_ (ld_blt I hg hm boot_enumerate (PyProof.Rows.callWith_type1 (thn (ha.run pos pins s σ H _ I h) fun us s1 ⟨vs, H1, I1, r1, q1⟩ => ?_) hs rfl))
  obtain ⟨k, a, xs, ex, hq, q⟩ := q1
  subst ex
  cases r1 with
  | cons r rr =>
    cases rr
    cases r
    obtain ⟨its, rv, p', la⟩ := seqK I1 hq
    refine call_enumerateK p' fun h' he hit hsz hk => wpAny_pyIter_enum he ?_
    have I2 : Inv X pins σ H1 { s1 with heap := h' } := I1.kept (t' := s1.toks) hk
    refine ⟨s1.heap.objs.size + 1, [s1.heap.objs.size + 1, s1.heap.objs.size], _, _, H1, rfl, I2, turn_enumK k a (s1.heap.objs.size + 1) s1.heap.objs.size (Nat.ne_of_lt (Nat.lt_succ_of_lt la)) (Nat.ne_of_lt la), ⟨⟨.none, he⟩, hit, Nat.succ_ne_self _⟩, fun b hb => ?_, q⟩
    have e' : b = s1.heap.objs.size + 1 ∨ b = s1.heap.objs.size := by simpa using hb
    have hle : s1.heap.objs.size ≤ b := by
      rcases e' with z | z
      · rw [z]; exact Nat.le_add_right _ _
      · rw [z]; exact Nat.le_refl _
    exact I1.fpOk hle (I1.hok.fresh hle)
theorem walk_enumK {K : PySem.W.Frag} {k : Bool} {a : Addr} {xs : List V} : Walk (IteK K k a) xs.length (fun H => SqK k K H a xs) (YPair (fun i => some (.int (i : Nat))) (fun i => xs[i]?)) := by
  refine ⟨fun i _ hi q => ⟨xs, xs[i], q, by simp [hi]⟩, fun _ q => ⟨xs, q, rfl⟩, fun i H v H' _ q y => ?_⟩
  obtain ⟨T, x, h1, h2, h3, h4⟩ := y
  exact ⟨T, .int (i : Nat), x, h1, h2, h3, rfl, h4 xs q⟩
end ZN

set_option maxHeartbeats 400000
namespace My
open PySem PySem.Spec PyProof.Rows L2
section
variable {K : PySem.W.Frag} {σ : St} {H : Hp} {te : TE} {vs : List Nat} {Q : VK}
theorem upd_self {H : Hp} {a : Addr} {o : HO} (h : H a = some o) : upd H a o = H := by
  funext b
  by_cases e : b = a
  · subst e; rw [upd_same, h]
  · rw [upd_ne e]
theorem same_upd {H H' : Hp} {D : Addr} {u : HO} (e : Same H H') : Same (upd H D u) (upd H' D u) := fun b o q => by
  by_cases hb : b = D
  · subst hb; rw [upd_same] at q ⊢; exact q
  · rw [upd_ne hb] at q ⊢; exact e b o q
/-- a comprehension over anything that is walked, with a test: what is made is told as data -/
theorem comp_jd {J : It} {n : Nat} {G : Hp → Prop} {Y : Nat → Hp → V → Hp → Prop} {wi : TI} {g : TG} {tt : TT} (w : Walk J n G Y) (sel : Nat → Bool) (dk : Nat → PyData) (hz : n < 100000)
    (hG : ∀ H', Same H H' → G H') (h0 : ∀ R : It → Hp → Prop, R J H → wi σ H R)
    (hel : ∀ (k : Nat) (x : V) (D : Addr) (acc : List V) (H1 H2 : Hp) (A : VK) (B : Hp → Prop), k < n → Same H H1 → H D = none → H1 D = some (.lst acc) → Y k H1 x H2 →
      (sel k = true → ∀ y H5, Same H1 H5 → (∀ u, Jd K (upd H5 D u) y (dk k)) → A y H5) → (sel k = false → ∀ H4, Same H1 H4 → B H4) →
      g x (wipe σ vs) H2 fun σ2 H3 => wipe σ2 vs = wipe σ vs ∧ tt σ2 H3 fun b H4 => if b = true then te σ2 H4 A else B H4)
    (q : ∀ D ys H', Same H H' → H D = none → H' D = some (.lst ys) → JdAll K H' ys (((List.range n).filter sel).map dk) → Q (.ref D) H') :
    tLc wi g tt te vs σ H Q := by
  refine h0 _ fun D hD => ?_
  refine lc_it w (fun k H' => k ≤ n ∧ Same H H' ∧ ∃ ys, H' D = some (.lst ys) ∧ ys.length ≤ k ∧ ∀ u, JdAll K (upd H' D u) ys (((List.range k).filter sel).map dk))
    ⟨Nat.zero_le _, same_new hD, [], upd_same, Nat.le_refl _, fun u => .nil⟩ (fun k H' _ h => hG H' h.2.1) ?_ ?_
  · rintro k x H1 H2 hk ⟨_, e1, ys, hL, hlen, hj⟩ hy
    refine hel k x D ys H1 H2 _ _ hk e1 hD hL hy (fun hs y H5 e5 hJ => ?_) (fun hs H4 e4 => ?_)
    · refine ⟨ys, e5 _ _ hL, Evl.sz_lt (by omega), hk, ?_, ys ++ [y], upd_same, by simp; omega, fun u => ?_⟩
      · intro b u e
        rw [upd_ne (ne_of_none e hD)]
        exact e5 _ _ (e1 _ _ e)
      · rw [upd_upd, List.range_succ, List.filter_append, List.map_append]
        refine JdAll.append (JdAll.mono (same_upd e5) _ _ (hj u)) ?_
        have e : ([k].filter sel) = [k] := by simp [hs]
        rw [e]
        exact .cons (hJ u) .nil
    · refine ⟨hk, e1.trans e4, ys, e4 _ _ hL, by omega, fun u => ?_⟩
      rw [List.range_succ, List.filter_append, List.map_append]
      have e : ([k].filter sel) = [] := by simp [hs]
      rw [e, List.map_nil, List.append_nil]
      exact JdAll.mono (same_upd e4) _ _ (hj u)
  · rintro H1 ⟨_, e1, ys, hL, _, hj⟩
    have := hj (.lst ys)
    rw [upd_self hL] at this
    exact q D ys H1 e1 hD hL this
end
end My

set_option maxHeartbeats 400000
namespace My
open PySem PySem.Spec PyProof.Rows L2
section
variable {K : PySem.W.Frag} {σ : St} {H : Hp} {te : TE} {vs : List Nat} {Q : VK} {J : It} {n i j : Nat} {G : Hp → Prop} {wi : TI} {tt : TT}
theorem filter_all {α : Type} (l : List α) : l.filter (fun _ => true) = l := List.filter_eq_self.2 fun _ _ => rfl
/-- over pairs: two names -/
theorem comp_pair_if {fx fy : Nat → Option V} (w : Walk J n G (YPair fx fy)) (sel : Nat → Bool) (dk : Nat → PyData) (hz : n < 100000)
    (hG : ∀ H', Same H H' → G H') (h0 : ∀ R : It → Hp → Prop, R J H → wi σ H R) (hw : ∀ x y, wipe (((wipe σ vs).set i (some x)).set j (some y)) vs = wipe σ vs)
    (hel : ∀ (k : Nat) (x y : V) (D : Addr) (acc : List V) (H1 : Hp) (A : VK) (B : Hp → Prop), k < n → Same H H1 → H D = none → H1 D = some (.lst acc) → fx k = some x → fy k = some y →
      (sel k = true → ∀ v H5, Same H1 H5 → (∀ u, Jd K (upd H5 D u) v (dk k)) → A v H5) → (sel k = false → ∀ H4, Same H1 H4 → B H4) →
      tt (((wipe σ vs).set i (some x)).set j (some y)) H1 fun b H4 => if b = true then te (((wipe σ vs).set i (some x)).set j (some y)) H4 A else B H4)
    (q : ∀ D ys H', Same H H' → H D = none → H' D = some (.lst ys) → JdAll K H' ys (((List.range n).filter sel).map dk) → Q (.ref D) H') :
    tLc wi (gTup K 2 (gCons (gName i) (gCons (gName j) gNil))) tt te vs σ H Q := by
  refine comp_jd w sel dk hz hG h0 (fun k v D acc H1 H2 A B hk e1 hD hL hy hA hB => ?_) q
  obtain ⟨T, x, y, rfl, hT, rfl, hx, hy⟩ := hy
  have e2 : Same H1 (upd H1 T (.tup [x, y])) := same_new hT
  refine ⟨T, [x, y], rfl, .inl (.inl upd_same), rfl, _, _, rfl, _, _, rfl, rfl, hw x y, ?_⟩
  exact hel k x y D acc _ A B hk (e1.trans e2) hD (e2 _ _ hL) hx hy (fun s v H5 e5 => hA s v H5 (e2.trans e5)) fun s H4 e4 => hB s H4 (e2.trans e4)
theorem comp_pair {fx fy : Nat → Option V} (w : Walk J n G (YPair fx fy)) (dk : Nat → PyData) (hz : n < 100000)
    (hG : ∀ H', Same H H' → G H') (h0 : ∀ R : It → Hp → Prop, R J H → wi σ H R) (hw : ∀ x y, wipe (((wipe σ vs).set i (some x)).set j (some y)) vs = wipe σ vs)
    (hel : ∀ (k : Nat) (x y : V) (D : Addr) (acc : List V) (H1 : Hp) (A : VK), k < n → Same H H1 → H D = none → H1 D = some (.lst acc) → fx k = some x → fy k = some y →
      (∀ v H5, Same H1 H5 → (∀ u, Jd K (upd H5 D u) v (dk k)) → A v H5) → te (((wipe σ vs).set i (some x)).set j (some y)) H1 A)
    (q : ∀ D ys H', Same H H' → H D = none → H' D = some (.lst ys) → JdAll K H' ys ((List.range n).map dk) → Q (.ref D) H') :
    tLc wi (gTup K 2 (gCons (gName i) (gCons (gName j) gNil))) tYes te vs σ H Q :=
  comp_pair_if w (fun _ => true) dk hz hG h0 hw (fun k x y D acc H1 A B hk e1 hD hL hx hy hA _ => yes_of (hel k x y D acc H1 A hk e1 hD hL hx hy (hA rfl)))
    fun D ys H' a b c d => q D ys H' a b c (filter_all (List.range n) ▸ d)
/-- over single things: one name -/
theorem comp_one_if {xs : List V} (w : Walk J n G (YAt xs)) (sel : Nat → Bool) (dk : Nat → PyData) (hz : n < 100000)
    (hG : ∀ H', Same H H' → G H') (h0 : ∀ R : It → Hp → Prop, R J H → wi σ H R) (hw : ∀ x, wipe ((wipe σ vs).set i (some x)) vs = wipe σ vs)
    (hel : ∀ (k : Nat) (x : V) (D : Addr) (acc : List V) (H1 : Hp) (A : VK) (B : Hp → Prop), k < n → Same H H1 → H D = none → H1 D = some (.lst acc) → xs[k]? = some x →
      (sel k = true → ∀ v H5, Same H1 H5 → (∀ u, Jd K (upd H5 D u) v (dk k)) → A v H5) → (sel k = false → ∀ H4, Same H1 H4 → B H4) →
      tt ((wipe σ vs).set i (some x)) H1 fun b H4 => if b = true then te ((wipe σ vs).set i (some x)) H4 A else B H4)
    (q : ∀ D ys H', Same H H' → H D = none → H' D = some (.lst ys) → JdAll K H' ys (((List.range n).filter sel).map dk) → Q (.ref D) H') :
    tLc wi (gName i) tt te vs σ H Q := by
  refine comp_jd w sel dk hz hG h0 (fun k v D acc H1 H2 A B hk e1 hD hL hy hA hB => ?_) q
  obtain ⟨rfl, hx⟩ := hy
  exact ⟨hw v, hel k v D acc _ A B hk e1 hD hL hx hA hB⟩
theorem comp_one {xs : List V} (w : Walk J n G (YAt xs)) (dk : Nat → PyData) (hz : n < 100000)
    (hG : ∀ H', Same H H' → G H') (h0 : ∀ R : It → Hp → Prop, R J H → wi σ H R) (hw : ∀ x, wipe ((wipe σ vs).set i (some x)) vs = wipe σ vs)
    (hel : ∀ (k : Nat) (x : V) (D : Addr) (acc : List V) (H1 : Hp) (A : VK), k < n → Same H H1 → H D = none → H1 D = some (.lst acc) → xs[k]? = some x →
      (∀ v H5, Same H1 H5 → (∀ u, Jd K (upd H5 D u) v (dk k)) → A v H5) → te ((wipe σ vs).set i (some x)) H1 A)
    (q : ∀ D ys H', Same H H' → H D = none → H' D = some (.lst ys) → JdAll K H' ys ((List.range n).map dk) → Q (.ref D) H') :
    tLc wi (gName i) tYes te vs σ H Q :=
  comp_one_if w (fun _ => true) dk hz hG h0 hw (fun k x D acc H1 A B hk e1 hD hL hx hA _ => yes_of (hel k x D acc H1 A hk e1 hD hL hx (hA rfl)))
    fun D ys H' a b c d => q D ys H' a b c (filter_all (List.range n) ▸ d)
/-- over range -/
theorem comp_rng_if {f : Nat → V} (w : Walk J n G (YFn f)) (sel : Nat → Bool) (dk : Nat → PyData) (hz : n < 100000)
    (hG : ∀ H', Same H H' → G H') (h0 : ∀ R : It → Hp → Prop, R J H → wi σ H R) (hw : ∀ x, wipe ((wipe σ vs).set i (some x)) vs = wipe σ vs)
    (hel : ∀ (k : Nat) (D : Addr) (acc : List V) (H1 : Hp) (A : VK) (B : Hp → Prop), k < n → Same H H1 → H D = none → H1 D = some (.lst acc) →
      (sel k = true → ∀ v H5, Same H1 H5 → (∀ u, Jd K (upd H5 D u) v (dk k)) → A v H5) → (sel k = false → ∀ H4, Same H1 H4 → B H4) →
      tt ((wipe σ vs).set i (some (f k))) H1 fun b H4 => if b = true then te ((wipe σ vs).set i (some (f k))) H4 A else B H4)
    (q : ∀ D ys H', Same H H' → H D = none → H' D = some (.lst ys) → JdAll K H' ys (((List.range n).filter sel).map dk) → Q (.ref D) H') :
    tLc wi (gName i) tt te vs σ H Q := by
  refine comp_jd w sel dk hz hG h0 (fun k v D acc H1 H2 A B hk e1 hD hL hy hA hB => ?_) q
  obtain ⟨rfl, rfl⟩ := hy
  exact ⟨hw _, hel k D acc _ A B hk e1 hD hL hA hB⟩
theorem comp_rng {f : Nat → V} (w : Walk J n G (YFn f)) (dk : Nat → PyData) (hz : n < 100000)
    (hG : ∀ H', Same H H' → G H') (h0 : ∀ R : It → Hp → Prop, R J H → wi σ H R) (hw : ∀ x, wipe ((wipe σ vs).set i (some x)) vs = wipe σ vs)
    (hel : ∀ (k : Nat) (D : Addr) (acc : List V) (H1 : Hp) (A : VK), k < n → Same H H1 → H D = none → H1 D = some (.lst acc) →
      (∀ v H5, Same H1 H5 → (∀ u, Jd K (upd H5 D u) v (dk k)) → A v H5) → te ((wipe σ vs).set i (some (f k))) H1 A)
    (q : ∀ D ys H', Same H H' → H D = none → H' D = some (.lst ys) → JdAll K H' ys ((List.range n).map dk) → Q (.ref D) H') :
    tLc wi (gName i) tYes te vs σ H Q :=
  comp_rng_if w (fun _ => true) dk hz hG h0 hw (fun k D acc H1 A B hk e1 hD hL hA _ => yes_of (hel k D acc H1 A hk e1 hD hL (hA rfl)))
    fun D ys H' a b c d => q D ys H' a b c (filter_all (List.range n) ▸ d)
theorem jd_ints_inv : ∀ (ns : List Int) (ys : List V), JdAll K H ys (ns.map PyData.int) → ys = ns.map V.int
  | [], _, h => by cases h; rfl
  | n :: ns, _, h => by
    cases h with
    | cons a b => cases a; rw [jd_ints_inv ns _ b]; rfl
end
/-- the sum of products -/
def dotL (xs ys : List Int) : Int := (List.zipWith (· * ·) xs ys).sum
theorem zip_data (xs ys : List Int) : (List.range (min xs.length ys.length)).map (fun k => PyData.int (xs.getD k 0 * ys.getD k 0)) = (List.zipWith (· * ·) xs ys).map PyData.int := by
  apply List.ext_getElem
  · simp
  · intro k h1 h2
    simp only [List.length_map, List.length_range] at h1
    have ha : k < xs.length := by omega
    have hb : k < ys.length := by omega
    simp [ha, hb]
/-- integers of this many bits at most can be multiplied -/
def Wd (x : Int) : Prop := x.natAbs < 2 ^ 400000
theorem Wd.mul {x y : Int} (a : Wd x) (b : Wd y) : CMulW x y := wide_mul a b (by decide) (by decide) (by decide)
end My
namespace My
open PySem PySem.Spec PyProof.Rows L2 ZN
/-! ### matrices: a tuple (k) or a list of tuples of integers -/
def irow (r : List Int) : List V := r.map V.int
def MtAt (K : PySem.W.Frag) (H : Hp) (k : Bool) (v : V) (M : List (List Int)) : Prop := ∃ a ls, v = .ref a ∧ SqK k K H a ls ∧ RowsAt K H ls (M.map irow)
def trM (W : Nat) (M : List (List Int)) : List (List Int) := (List.range W).map fun i => M.map fun r => r.getD i 0
section
variable {K : PySem.W.Frag} {H H' : Hp} {k : Bool} {v : V} {M : List (List Int)}
theorem same_k {a : Addr} {xs : List V} (e : Same H H') (h : SqK k K H a xs) : SqK k K H' a xs := by
  cases k
  · exact same_l e h
  · exact same_t e h
theorem rows_mono {ls : List V} {rows : List (List V)} (e : Same H H') (h : RowsAt K H ls rows) : RowsAt K H' ls rows :=
  ⟨h.1, fun j r hj => let ⟨t, h1, h2⟩ := h.2 j r hj; ⟨t, h1, same_t e h2⟩⟩
theorem MtAt.mono (e : Same H H') (h : MtAt K H k v M) : MtAt K H' k v M :=
  let ⟨a, ls, h1, h2, h3⟩ := h; ⟨a, ls, h1, same_k e h2, rows_mono e h3⟩
theorem MtAt.sq (h : MtAt K H k v M) : ∃ a ls, v = .ref a ∧ SqK k K H a ls ∧ ls.length = M.length ∧ ∀ (j : Nat) (r : List Int), M[j]? = some r → ∃ t, ls[j]? = some (.ref t) ∧ SqT K H t (irow r) := by
  obtain ⟨a, ls, h1, h2, h3, h4⟩ := h
  exact ⟨a, ls, h1, h2, by simpa using h3, fun j r hj => h4 j (irow r) (by rw [List.getElem?_map, hj]; rfl)⟩
theorem irow_getD {r : List Int} {j : Nat} (h : j < r.length) : (irow r).getD j .non = .int (r.getD j 0) := by
  simp [irow, h]
theorem colOf_irow {W j : Nat} (hW : ∀ r ∈ M, r.length = W) (hj : j < W) : colOf (M.map irow) j = irow (M.map fun r => r.getD j 0) := by
  unfold colOf irow
  rw [List.map_map, List.map_map]
  refine List.map_congr_left fun r hr => ?_
  exact irow_getD (by rw [hW r hr]; exact hj)
theorem trM_get {W j : Nat} (hj : j < W) : (trM W M)[j]? = some (M.map fun r => r.getD j 0) := by
  simp [trM, hj]
/-- what a call of turned(x) asks and gives -/
theorem zip_read {te : TE} {σ : St} {Q : VK} {H0 : Hp} {W : Nat} (h0 : ∀ R : VK, R v H → te σ H0 R) (h : MtAt K H k v M) (hne : M ≠ []) (hW0 : 0 < W) (hW : ∀ r ∈ M, r.length = W)
    (q : ∀ v' H', Same H H' → MtAt K H' true v' (trM W M) → Q v' H') : tZip K te σ H0 Q := by
  obtain ⟨a, ls, rfl, hs, hr⟩ := h
  refine h0 _ ⟨a, ls, M.map irow, W, rfl, ?_, hr, by simpa using hne, hW0, fun r hm => ?_, fun p as H2 e hp h2 hl hc => ?_⟩
  · cases k
    · exact .inr hs
    · exact .inl hs
  · obtain ⟨r', hr', rfl⟩ := List.mem_map.mp hm
    simpa [irow] using hW r' hr'
  · refine q _ H2 e ⟨p, as.map V.ref, rfl, .inl (.inl h2), by simp [trM, hl], fun j r hj => ?_⟩
    rw [List.getElem?_map, Option.map_eq_some_iff] at hj
    obtain ⟨r0, h3, rfl⟩ := hj
    have hjW : j < W := by
      have := (List.getElem?_eq_some_iff.mp h3).1
      simpa [trM] using this
    rw [trM_get hjW] at h3
    cases h3
    have hja : j < as.length := by omega
    have ea : as[j]? = some as[j] := List.getElem?_eq_getElem hja
    refine ⟨as[j], by rw [List.getElem?_map, ea]; rfl, .inl (.inl ?_)⟩
    rw [(hc j _ ea).2, colOf_irow hW hjW]
end
end My
namespace My
open PySem PySem.Spec PyProof.Rows L2 ZN
section
variable {K : PySem.W.Frag} {H H' : Hp}
def rowD (r : List Int) : PyData := .tuple (r.map .int)
theorem jd_row {v : V} {r : List Int} (h : Jd K H v (rowD r)) : ∃ t, v = .ref t ∧ SqT K H t (irow r) := by
  cases h with
  | tup hs hj => exact ⟨_, rfl, by rw [jd_ints_inv _ _ hj] at hs; exact hs⟩
theorem row_jd {t : Addr} {r : List Int} (h : SqT K H t (irow r)) : Jd K H (.ref t) (rowD r) := .tup h (jd_ints r)
theorem jd_rows : ∀ {M : List (List Int)} {ls : List V}, JdAll K H ls (M.map rowD) → RowsAt K H ls (M.map irow)
  | [], _, h => by cases h; exact ⟨rfl, fun j r e => by simp at e⟩
  | r :: M, _, h => by
    cases h with
    | cons a b =>
      obtain ⟨t, rfl, ht⟩ := jd_row a
      obtain ⟨h1, h2⟩ := jd_rows b
      refine ⟨by simp only [List.map_cons, List.length_cons] at h1 ⊢; omega, fun j r' e => ?_⟩
      cases j with
      | zero => simp at e; subst e; exact ⟨t, rfl, ht⟩
      | succ j => exact (h2 j r' (by simpa using e)).imp fun t h => ⟨by simpa using h.1, h.2⟩
theorem sq_upd {t D : Addr} {u : HO} {xs : List V} {acc : List V} (n : H' t = none) (hD : H' D = some (.lst acc)) (h : H t = some (.tup xs)) : SqT K (upd H D u) t xs := by
  refine .inl (.inl ?_)
  rw [upd_ne (fun e => by subst e; rw [hD] at n; cases n)]
  exact h
end
def mulM (W : Nat) (A B : List (List Int)) : List (List Int) := A.map fun r => (trM W B).map fun c => dotL r c
end My
namespace My
open L2
theorem pe_eq {X : Cx} {e : PySem.Expr} {te te' : TE} (h : PE X e te') (q : te' = te) : PE X e te := q ▸ h
end My
namespace My
open PySem PySem.Spec PyProof.Rows L2 ZN
theorem range_getD {α β : Type} (f : α → β) (d : α) (l : List α) : (List.range l.length).map (fun m => f (l.getD m d)) = l.map f := by
  apply List.ext_getElem
  · simp
  · intro k h1 h2
    simp only [List.length_map, List.length_range] at h1
    simp [h1]
theorem range_getD' {α β : Type} (f : α → β) (d : α) (l : List α) (n : Nat) (h : n = l.length) : (List.range n).map (fun m => f (l.getD m d)) = l.map f := by
  subst h; exact range_getD f d l
/-- a new tuple made of a list of integers: told as data, the list at D aside -/
theorem row_new {K : PySem.W.Frag} {H1 : Hp} {D l : Addr} {u : HO} {acc : List V} {ns : List Int} (hD : H1 D = some (.lst acc)) (hl : H1 l = none) : Jd K (upd (upd H1 l (.tup (irow ns))) D u) (.ref l) (rowD ns) := by
  refine row_jd (.inl (.inl ?_))
  rw [upd_ne (fun e => by subst e; rw [hD] at hl; cases hl), upd_same]
end My
namespace My
theorem trM_all {Pz : Int → Prop} {W : Nat} {N : List (List Int)} (hW : ∀ r ∈ N, r.length = W) (h : ∀ r ∈ N, ∀ x ∈ r, Pz x) : ∀ c ∈ trM W N, ∀ x ∈ c, Pz x := by
  intro c hc x hx
  simp only [trM, List.mem_map, List.mem_range] at hc
  obtain ⟨i, hi, rfl⟩ := hc
  obtain ⟨r, hr, rfl⟩ := List.mem_map.mp hx
  have hir : i < r.length := by rw [hW r hr]; exact hi
  have e : r.getD i 0 = r[i] := by simp [hir]
  rw [e]
  exact h r hr _ (List.getElem_mem hir)
theorem trM_length {W : Nat} {N : List (List Int)} : (trM W N).length = W := by simp [trM]
theorem trM_row {W : Nat} {N : List (List Int)} : ∀ c ∈ trM W N, c.length = N.length := by
  intro c hc
  simp only [trM, List.mem_map, List.mem_range] at hc
  obtain ⟨i, hi, rfl⟩ := hc
  simp
theorem mulM_length {W : Nat} {A B : List (List Int)} : (mulM W A B).length = A.length := by simp [mulM]
theorem mulM_row {W : Nat} {A B : List (List Int)} : ∀ r ∈ mulM W A B, r.length = W := by
  intro r hr
  simp only [mulM, List.mem_map] at hr
  obtain ⟨r0, h0, rfl⟩ := hr
  simp [trM]
end My
namespace My
open PySem PySem.Spec PyProof.Rows L2 ZN
def RwAt (K : PySem.W.Frag) (H : Hp) (k : Bool) (v : V) (r : List Int) : Prop := ∃ a, v = .ref a ∧ SqK k K H a (irow r)
theorem RwAt.mono {K : PySem.W.Frag} {H H' : Hp} {k : Bool} {v : V} {r : List Int} (e : Same H H') (h : RwAt K H k v r) : RwAt K H' k v r := let ⟨a, h1, h2⟩ := h; ⟨a, h1, same_k e h2⟩
def imgL (M : List (List Int)) (r : List Int) : List Int := M.map fun l => dotL l r
def valL (M : List (List Int)) (r : List Int) : Int := dotL (imgL M r) r
def ledM (n : Nat) (T U : List (List Int)) : List (List Int) := mulM n (trM n U) (mulM n T U)
def movM (n : Nat) (T U : List (List Int)) : List (List Int) := mulM n U (mulM n T (trM n U))
/-- n rows of n integers -/
structure Sq (n : Nat) (M : List (List Int)) : Prop where
  len : M.length = n
  row : ∀ r ∈ M, r.length = n
  pos : 0 < n
  few : n < 100000
def AllW (M : List (List Int)) : Prop := ∀ r ∈ M, ∀ x ∈ r, Wd x
theorem Sq.ne {n : Nat} {M : List (List Int)} (s : Sq n M) : M ≠ [] := fun e => by
  have := s.len; have := s.pos; subst e; simp at *; omega
theorem Sq.lt {n : Nat} {M : List (List Int)} (s : Sq n M) : M.length < 100000 := s.len ▸ s.few
theorem Sq.rlt {n : Nat} {M : List (List Int)} (s : Sq n M) : ∀ r ∈ M, r.length < 100000 := fun r h => (s.row r h) ▸ s.few
theorem Sq.tr {n : Nat} {M : List (List Int)} (s : Sq n M) : Sq n (trM n M) := ⟨trM_length, fun r h => (trM_row r h).trans s.len, s.pos, s.few⟩
theorem Sq.mul {n : Nat} {A B : List (List Int)} (a : Sq n A) : Sq n (mulM n A B) := ⟨mulM_length.trans a.len, mulM_row, a.pos, a.few⟩
theorem AllW.tr {n : Nat} {M : List (List Int)} (s : Sq n M) (h : AllW M) : AllW (trM n M) := trM_all s.row h
end My

set_option maxHeartbeats 400000
namespace My
open PySem PySem.Spec PyProof.Rows L2 ZN
section
variable {K : PySem.W.Frag} {σ : St} {H : Hp} {te : TE} {vs : List Nat} {Q : VK}
/-- a comprehension over anything that is walked, with a test: the very values -/
theorem comp_eq {J : It} {n : Nat} {G : Hp → Prop} {Y : Nat → Hp → V → Hp → Prop} {wi : TI} {g : TG} {tt : TT} (w : Walk J n G Y) (sel : Nat → Bool) (yk : Nat → V) (hz : n < 100000)
    (hG : ∀ H', Same H H' → G H') (h0 : ∀ R : It → Hp → Prop, R J H → wi σ H R)
    (hel : ∀ (k : Nat) (x : V) (H1 H2 : Hp) (A : VK) (B : Hp → Prop), k < n → Same H H1 → Y k H1 x H2 →
      (sel k = true → ∀ H5, Same H1 H5 → A (yk k) H5) → (sel k = false → ∀ H4, Same H1 H4 → B H4) →
      g x (wipe σ vs) H2 fun σ2 H3 => wipe σ2 vs = wipe σ vs ∧ tt σ2 H3 fun b H4 => if b = true then te σ2 H4 A else B H4)
    (q : ∀ D H', Same H H' → H D = none → H' D = some (.lst (((List.range n).filter sel).map yk)) → Q (.ref D) H') :
    tLc wi g tt te vs σ H Q := by
  refine h0 _ fun D hD => ?_
  refine lc_it w (fun k H' => k ≤ n ∧ Same H H' ∧ H' D = some (.lst (((List.range k).filter sel).map yk)))
    ⟨Nat.zero_le _, same_new hD, upd_same⟩ (fun k H' _ h => hG H' h.2.1) ?_ ?_
  · rintro k x H1 H2 hk ⟨_, e1, hL⟩ hy
    have hlen : (((List.range k).filter sel).map yk).length ≤ k := by
      rw [List.length_map]
      exact Nat.le_trans (List.length_filter_le _ _) (by simp)
    refine hel k x H1 H2 _ _ hk e1 hy (fun hs H5 e5 => ?_) (fun hs H4 e4 => ?_)
    · refine ⟨_, e5 _ _ hL, Evl.sz_lt (by omega), hk, ?_, ?_⟩
      · intro b u e
        rw [upd_ne (ne_of_none e hD)]
        exact e5 _ _ (e1 _ _ e)
      · rw [upd_same, List.range_succ, List.filter_append, List.map_append]
        have e : ([k].filter sel) = [k] := by simp [hs]
        rw [e]
        rfl
    · refine ⟨hk, e1.trans e4, ?_⟩
      rw [List.range_succ, List.filter_append, List.map_append]
      have e : ([k].filter sel) = [] := by simp [hs]
      rw [e, List.map_nil, List.append_nil]
      exact e4 _ _ hL
  · rintro H1 ⟨_, e1, hL⟩
    exact q D H1 e1 hD hL
theorem comp_eq_pair {J : It} {n i j : Nat} {G : Hp → Prop} {wi : TI} {tt : TT} {fx fy : Nat → Option V} (w : Walk J n G (YPair fx fy)) (sel : Nat → Bool) (yk : Nat → V) (hz : n < 100000)
    (hG : ∀ H', Same H H' → G H') (h0 : ∀ R : It → Hp → Prop, R J H → wi σ H R) (hw : ∀ x y, wipe (((wipe σ vs).set i (some x)).set j (some y)) vs = wipe σ vs)
    (hel : ∀ (k : Nat) (x y : V) (H1 : Hp) (A : VK) (B : Hp → Prop), k < n → Same H H1 → fx k = some x → fy k = some y →
      (sel k = true → ∀ H5, Same H1 H5 → A (yk k) H5) → (sel k = false → ∀ H4, Same H1 H4 → B H4) →
      tt (((wipe σ vs).set i (some x)).set j (some y)) H1 fun b H4 => if b = true then te (((wipe σ vs).set i (some x)).set j (some y)) H4 A else B H4)
    (q : ∀ D H', Same H H' → H D = none → H' D = some (.lst (((List.range n).filter sel).map yk)) → Q (.ref D) H') :
    tLc wi (gTup K 2 (gCons (gName i) (gCons (gName j) gNil))) tt te vs σ H Q := by
  refine comp_eq w sel yk hz hG h0 (fun k v H1 H2 A B hk e1 hy hA hB => ?_) q
  obtain ⟨T, x, y, rfl, hT, rfl, hx, hy⟩ := hy
  have e2 : Same H1 (upd H1 T (.tup [x, y])) := same_new hT
  refine ⟨T, [x, y], rfl, .inl (.inl upd_same), rfl, _, _, rfl, _, _, rfl, rfl, hw x y, ?_⟩
  exact hel k x y _ A B hk (e1.trans e2) hx hy (fun s H5 e5 => hA s H5 (e2.trans e5)) fun s H4 e4 => hB s H4 (e2.trans e4)
end
theorem erase_range {α : Type} (d : α) (i : Nat) (xs : List α) : ∀ m, m ≤ xs.length → ((List.range m).filter fun k => k != i).map (fun k => xs.getD k d) = (xs.take m).eraseIdx i
  | 0, _ => by simp
  | m + 1, h => by
    have hm : m < xs.length := h
    rw [List.range_succ, List.filter_append, List.map_append, erase_range d i xs m (by omega), List.take_succ, List.getElem?_eq_getElem hm]
    have hl : (xs.take m).length = m := by simp; omega
    by_cases c : i = m
    · subst c
      have e : ([i].filter fun k => k != i) = [] := by simp
      rw [e, List.map_nil, List.append_nil, List.eraseIdx_of_length_le (by omega), List.eraseIdx_append_of_length_le (by omega), hl]
      simp
    · have e : ([m].filter fun k => k != i) = [m] := by simp; omega
      rw [e]
      rcases Nat.lt_or_gt_of_ne c with z | z
      · rw [List.eraseIdx_append_of_lt_length (by omega)]
        simp [hm]
      · rw [List.eraseIdx_of_length_le (by omega), List.eraseIdx_of_length_le (by simp; omega)]
        simp [hm]
theorem erase_all {α : Type} (d : α) (i : Nat) (xs : List α) : ((List.range xs.length).filter fun k => k != i).map (fun k => xs.getD k d) = xs.eraseIdx i := by
  rw [erase_range d i xs xs.length (Nat.le_refl _), List.take_length]
end My
namespace My
open PySem PySem.Spec PyProof.Rows L2 ZN
theorem ix_k {K : PySem.W.Frag} {k : Bool} {H : Hp} {a : Addr} {xs : List V} {i : Nat} {v : V} {Q : VK} (h : SqK k K H a xs) (e : xs[i]? = some v) (q : Q v H) : rIx K (.ref a) (.int (i : Nat)) H Q := by
  cases k
  · exact .inl ⟨a, xs, i, v, rfl, rfl, h, atI_nat e, q⟩
  · exact .inr (.inl ⟨a, xs, i, v, rfl, rfl, h, atI_nat e, q⟩)
theorem irow_get {r : List Int} {i : Nat} (h : i < r.length) : (irow r)[i]? = some (.int (r.getD i 0)) := by
  simp [irow, h]
theorem irow_get' {r : List Int} {i : Nat} {v : V} (h : (irow r)[i]? = some v) : i < r.length ∧ v = .int (r.getD i 0) := by
  have hi : i < r.length := by
    have := (List.getElem?_eq_some_iff.mp h).1
    simpa [irow] using this
  rw [irow_get hi] at h
  exact ⟨hi, (Option.some.inj h).symm⟩
theorem mem_getD {r : List Int} {i : Nat} (h : i < r.length) : r.getD i 0 ∈ r := by
  have e : r.getD i 0 = r[i] := by simp [h]
  rw [e]; exact List.getElem_mem h
theorem zipW_data (f : Int → Int → Int) (xs ys : List Int) : (List.range (min (irow xs).length (irow ys).length)).map (fun k => PyData.int (f (xs.getD k 0) (ys.getD k 0))) = (List.zipWith f xs ys).map PyData.int := by
  apply List.ext_getElem
  · simp [irow]
  · intro k h1 h2
    simp only [List.length_map, List.length_range, irow] at h1
    have ha : k < xs.length := by omega
    have hb : k < ys.length := by omega
    simp [ha, hb]
end My

set_option maxHeartbeats 400000
namespace My
open PySem PySem.Spec PyProof.Rows L2 ZN
def clr (pw ln : List Int) (c : Nat) (s : Int) : List Int := List.zipWith (fun n o => (pw.getD c 0 * n - ln.getD c 0 * o).fdiv s) ln pw
/-- the place of the first row that is not 0 at the column -/
def pivAt (c : Nat) (rest : List (List Int)) : Option Nat := (rest.map fun r => r.getD c 0).findIdx? (fun x => x != 0)
def nextRest (c i : Nat) (rest : List (List Int)) (s : Int) : List (List Int) := (rest.eraseIdx i).map fun l => clr (rest.getD i []) l c s
/-- the elimination as the program goes: n columns are left, from c on -/
def detGo : Nat → Nat → List (List Int) → Int → Int → Int
  | 0, _, _, s, g => g * s
  | n + 1, c, rest, s, g => match pivAt c rest with
    | none => 0
    | some i => detGo n (c + 1) (nextRest c i rest s) ((rest.getD i []).getD c 0) (if i % 2 = 1 then -g else g)
/-- nothing on its way is too great -/
def Good (W : Nat) : Nat → Nat → List (List Int) → Int → Prop
  | 0, _, _, _ => True
  | n + 1, c, rest, s => AllW rest ∧ CDivA 0 s ∧ (∀ r ∈ rest, r.length = W) ∧ c < W ∧ W < 100000 ∧ rest.length < 100000 ∧ ∀ i, pivAt c rest = some i → Good W n (c + 1) (nextRest c i rest s) ((rest.getD i []).getD c 0)
def detL (M : List (List Int)) : Int := detGo M.length 0 M 1 1
/-- rows that all are tuples (kk) or all are lists -/
def RowsK (K : PySem.W.Frag) (H : Hp) (kk : Bool) (ls : List V) (M : List (List Int)) : Prop :=
  ls.length = M.length ∧ ∀ (j : Nat) (r : List Int), M[j]? = some r → ∃ t, ls[j]? = some (.ref t) ∧ SqK kk K H t (irow r)
theorem RowsK.mono {K : PySem.W.Frag} {H H' : Hp} {kk : Bool} {ls : List V} {M : List (List Int)} (e : Same H H') (h : RowsK K H kk ls M) : RowsK K H' kk ls M :=
  ⟨h.1, fun j r hj => let ⟨t, h1, h2⟩ := h.2 j r hj; ⟨t, h1, same_k e h2⟩⟩
theorem RowsK.erase {K : PySem.W.Frag} {H : Hp} {kk : Bool} {ls : List V} {M : List (List Int)} (h : RowsK K H kk ls M) (i : Nat) : RowsK K H kk (ls.eraseIdx i) (M.eraseIdx i) := by
  refine ⟨by rw [List.length_eraseIdx, List.length_eraseIdx, h.1], fun j r hj => ?_⟩
  rw [List.getElem?_eraseIdx] at hj ⊢
  split at hj
  · rename_i c
    rw [if_pos c]
    exact h.2 j r hj
  · rename_i c
    rw [if_neg c]
    exact h.2 (j + 1) r hj
theorem jd_lst {K : PySem.W.Frag} {H : Hp} {v : V} {r : List Int} (h : Jd K H v (.list (r.map .int))) : ∃ t, v = .ref t ∧ SqL K H t (irow r) := by
  cases h with
  | lst hs hj => exact ⟨_, rfl, by rw [jd_ints_inv _ _ hj] at hs; exact hs⟩
theorem jd_lsts {K : PySem.W.Frag} {H : Hp} : ∀ {M : List (List Int)} {ls : List V}, JdAll K H ls (M.map fun r => PyData.list (r.map .int)) → RowsK K H false ls M
  | [], _, h => by cases h; exact ⟨rfl, fun j r e => by simp at e⟩
  | r :: M, _, h => by
    cases h with
    | cons a b =>
      obtain ⟨t, rfl, ht⟩ := jd_lst a
      obtain ⟨h1, h2⟩ := jd_lsts b
      refine ⟨by simp only [List.length_cons] at h1 ⊢; omega, fun j r' e => ?_⟩
      cases j with
      | zero => simp at e; subst e; exact ⟨t, rfl, ht⟩
      | succ j => exact (h2 j r' (by simpa using e)).imp fun t h => ⟨by simpa using h.1, h.2⟩
end My
namespace My
open PySem PySem.Spec PyProof.Rows L2 ZN
/-- a new list of integers: told as data, the list at D aside -/
theorem lst_new {K : PySem.W.Frag} {H1 H2 : Hp} {D l : Addr} {u : HO} {acc : List V} {ns : List Int} (hD : H1 D = some (.lst acc)) (hl : H1 l = none) (h : H2 l = some (.lst (irow ns))) : Jd K (upd H2 D u) (.ref l) (.list (ns.map .int)) := by
  refine .lst (.inl (.inl ?_)) (jd_ints ns)
  rw [upd_ne (fun e => by subst e; rw [hD] at hl; cases hl)]
  exact h
theorem RowsK.get {K : PySem.W.Frag} {H : Hp} {kk : Bool} {ls : List V} {M : List (List Int)} (h : RowsK K H kk ls M) {j : Nat} (hj : j < M.length) : ∃ t, ls[j]? = some (.ref t) ∧ SqK kk K H t (irow (M.getD j [])) := by
  have e : M.getD j [] = M[j] := by simp [hj]
  rw [e]
  exact h.2 j _ (List.getElem?_eq_getElem hj)
end My
namespace My
theorem Wd.unit {x : Int} (h : x.natAbs ≤ 1) : Wd x := Nat.lt_of_le_of_lt h (Nat.one_lt_two_pow (by decide))
end My
namespace My
open PySem PySem.Spec PyProof.Rows L2 ZN
theorem bit1 (m : Nat) : (Builtin.bitAnd (m : Int) 1 != 0) = decide (m % 2 = 1) := by
  have e : Builtin.bitAnd (m : Int) 1 = ((m &&& 1 : Nat) : Int) := by
    rw [bitAnd_pp (by omega) (by omega)]
    simp
  rw [e, Nat.and_one_is_mod]
  rcases Nat.mod_two_eq_zero_or_one m with h | h <;> rw [h] <;> decide
theorem sign_un {m : Nat} {g : Int} {j : Nat} {σ : St} {H : Hp} {Q : VK} (hσ : σ[j]? = some (some (.int g))) (h : Q (.int (if m % 2 = 1 then -g else g)) H) :
    if (Builtin.bitAnd (m : Int) 1 != 0) = true then tUn (rU fun i => V.int (-i)) (tVar j) σ H Q else tVar j σ H Q := by
  rw [bit1]
  by_cases c : m % 2 = 1
  · rw [if_pos c] at h
    rw [if_pos (decide_eq_true c)]
    exact ⟨_, hσ, _, rfl, h⟩
  · rw [if_neg c] at h
    rw [if_neg (by simpa using c)]
    exact ⟨_, hσ, h⟩
theorem pivAt_some {c i : Nat} {rest : List (List Int)} (h : pivAt c rest = some i) : i < rest.length ∧ (rest.getD i []).getD c 0 ≠ 0 := by
  unfold pivAt at h
  rw [List.findIdx?_eq_some_iff_getElem] at h
  obtain ⟨hi, h1, _⟩ := h
  have hi' : i < rest.length := by simpa using hi
  refine ⟨hi', ?_⟩
  have e : rest.getD i [] = rest[i] := by simp [hi']
  rw [e]
  simpa using h1
end My
namespace My
open PySem PySem.Spec PyProof.Rows L2 ZN
/-- a comprehension, its iterator being there -/
def LcAt (J : It) (g : TG) (tt : TT) (te : TE) (vs : List Nat) (σ : St) (H : Hp) (Q : VK) : Prop := tLc (fun _ H R => R J H) g tt te vs σ H Q
theorem tLc_eq {wi : TI} {g : TG} {tt : TT} {te : TE} {vs : List Nat} {σ : St} {H : Hp} {Q : VK} : tLc wi g tt te vs σ H Q = wi σ H fun J H1 => LcAt J g tt te vs σ H1 Q := rfl
end My
namespace My
theorem detGo_some {n c i : Nat} {rest : List (List Int)} {s g : Int} (ep : pivAt c rest = some i) :
    detGo (n + 1) c rest s g = detGo n (c + 1) (nextRest c i rest s) ((rest.getD i []).getD c 0) (if i % 2 = 1 then -g else g) := by
  rw [detGo, ep]
end My
namespace My
open PySem PySem.Spec PyProof.Rows L2 ZN
def minorM (M : List (List Int)) (i j : Nat) : List (List Int) := (M.eraseIdx i).map fun r => r.eraseIdx j
theorem map_erase {α β : Type} (f : α → β) : ∀ (l : List α) (j : Nat), (l.map f).eraseIdx j = (l.eraseIdx j).map f
  | [], _ => rfl
  | _ :: _, 0 => rfl
  | x :: l, j + 1 => by simp [map_erase f l j]
theorem irow_erase (r : List Int) (j : Nat) : (irow r).eraseIdx j = irow (r.eraseIdx j) := map_erase _ _ _
end My
namespace My
open PySem PySem.Spec PyProof.Rows L2 ZN
def adjE (M : List (List Int)) (r c : Nat) : Int := (if (r + c) % 2 = 1 then -1 else 1) * detL (minorM M c r)
def adjM (M : List (List Int)) : List (List Int) := (List.range M.length).map fun r => (List.range M.length).map fun c => adjE M r c
end My
namespace My
open PySem PySem.Spec PyProof.Rows L2 ZN
theorem sign_c {r c : Nat} {σ : St} {H : Hp} {Q : VK} (h : Q (.int (if (r + c) % 2 = 1 then -1 else 1)) H) :
    if (Builtin.bitAnd ((r : Int) + (c : Int)) 1 != 0) = true then tUn (rU fun i => V.int (-i)) (tC (.int 1)) σ H Q else tC (.int 1) σ H Q := by
  rw [show (r : Int) + (c : Int) = ((r + c : Nat) : Int) by omega, bit1]
  by_cases k : (r + c) % 2 = 1
  · rw [if_pos k] at h
    rw [if_pos (decide_eq_true k)]
    exact ⟨_, rfl, h⟩
  · rw [if_neg k] at h
    rw [if_neg (by simpa using k)]
    exact h
theorem sgn_wd {r c : Nat} : Wd (if (r + c) % 2 = 1 then -1 else 1) := Wd.unit (by split <;> decide)
end My
namespace My
open PySem PySem.Spec PyProof.Rows L2 ZN
def undM (M : List (List Int)) : List (List Int) := (adjM M).map fun l => l.map fun x => detL M * x
theorem map_getD_data (f : Int → Int) (r : List Int) : (List.range (irow r).length).map (fun k => PyData.int (f (r.getD k 0))) = (r.map f).map PyData.int := by
  have e : (irow r).length = r.length := by simp [irow]
  rw [e]
  apply List.ext_getElem
  · simp
  · intro k h1 h2
    simp only [List.length_map, List.length_range] at h1
    simp [h1]
end My
namespace My
theorem adjM_row {M : List (List Int)} : ∀ r ∈ adjM M, r.length = M.length := by
  intro r hr
  simp only [adjM, List.mem_map, List.mem_range] at hr
  obtain ⟨i, _, rfl⟩ := hr
  simp
end My

namespace My
/-! ### sums -/
def Sm : Nat → (Nat → Int) → Int
  | 0, _ => 0
  | n + 1, f => Sm n f + f n
theorem Sm_congr : ∀ {n : Nat} {f g : Nat → Int}, (∀ k, k < n → f k = g k) → Sm n f = Sm n g
  | 0, _, _, _ => rfl
  | n + 1, f, g, h => by rw [Sm, Sm, Sm_congr (n := n) fun k hk => h k (by omega), h n (by omega)]
theorem Sm_add (f g : Nat → Int) : ∀ n, Sm n (fun k => f k + g k) = Sm n f + Sm n g
  | 0 => rfl
  | n + 1 => by simp only [Sm, Sm_add f g n]; omega
theorem Sm_mul (c : Int) (f : Nat → Int) : ∀ n, Sm n (fun k => c * f k) = c * Sm n f
  | 0 => by simp [Sm]
  | n + 1 => by simp only [Sm, Sm_mul c f n]; rw [Int.mul_add]
theorem Sm_mulr (c : Int) (f : Nat → Int) (n : Nat) : Sm n (fun k => f k * c) = Sm n f * c := by
  rw [Int.mul_comm, ← Sm_mul]
  exact Sm_congr fun k _ => Int.mul_comm _ _
theorem Sm_zero : ∀ n, Sm n (fun _ => 0) = 0
  | 0 => rfl
  | n + 1 => by simp [Sm, Sm_zero n]
theorem Sm_swap (f : Nat → Nat → Int) (m : Nat) : ∀ n, Sm n (fun i => Sm m (fun j => f i j)) = Sm m (fun j => Sm n (fun i => f i j))
  | 0 => by simp [Sm, Sm_zero]
  | n + 1 => by simp only [Sm]; rw [Sm_swap f m n, ← Sm_add]
theorem Sm_pick (f : Nat → Int) (i : Nat) : ∀ n, i < n → Sm n (fun k => if k = i then f k else 0) = f i
  | 0, h => by omega
  | n + 1, h => by
    simp only [Sm]
    by_cases c : n = i
    · subst c
      rw [if_pos rfl, Sm_congr (g := fun _ => 0) fun k hk => if_neg (by omega), Sm_zero, Int.zero_add]
    · rw [if_neg c, Sm_pick f i n (by omega), Int.add_zero]
theorem Sm_shift (f : Nat → Int) : ∀ n, Sm (n + 1) f = f 0 + Sm n (fun k => f (k + 1))
  | 0 => by simp [Sm]
  | n + 1 => by rw [Sm, Sm_shift f n, Sm]; omega
/-! ### entries -/
def en (M : List (List Int)) (i j : Nat) : Int := (M.getD i []).getD j 0
theorem dotL_Sm : ∀ (n : Nat) (xs ys : List Int), xs.length = n → ys.length = n → dotL xs ys = Sm n fun k => xs.getD k 0 * ys.getD k 0
  | 0, xs, ys, h, k => by
    cases xs with
    | nil => rfl
    | cons _ _ => simp at h
  | n + 1, xs, ys, h, k => by
    cases xs with
    | nil => simp at h
    | cons x xs =>
      cases ys with
      | nil => simp at k
      | cons y ys =>
        rw [Sm_shift]
        have := dotL_Sm n xs ys (by simpa using h) (by simpa using k)
        simp only [dotL, List.zipWith_cons_cons, List.sum_cons, List.getD_cons_zero, List.getD_cons_succ] at this ⊢
        rw [this]
theorem getD_map' {α β : Type} (f : α → β) (l : List α) (i : Nat) (d : α) (e : β) (h : i < l.length) : (l.map f).getD i e = f (l.getD i d) := by simp [h]
theorem getD_range (n i : Nat) (h : i < n) : (List.range n).getD i 0 = i := by simp [h]
theorem row_of {n : Nat} {M : List (List Int)} (s : Sq n M) {i : Nat} (h : i < n) : (M.getD i []).length = n := by
  have hi : i < M.length := s.len ▸ h
  have e : M.getD i [] = M[i] := by simp [hi]
  rw [e]; exact s.row _ (List.getElem_mem hi)
theorem en_tr {n : Nat} {M : List (List Int)} (s : Sq n M) {i j : Nat} (hi : i < n) (hj : j < n) : en (trM n M) i j = en M j i := by
  unfold en trM
  rw [getD_map' _ _ _ 0 _ (by simpa using hi), getD_range n i hi, getD_map' _ _ _ [] _ (by rw [s.len]; exact hj)]
theorem trM_at {n : Nat} {M : List (List Int)} {j : Nat} (hj : j < n) : (trM n M).getD j [] = M.map fun r => r.getD j 0 := by
  unfold trM
  rw [getD_map' _ _ _ 0 _ (by simpa using hj), getD_range n j hj]
theorem col_get {M : List (List Int)} {j k : Nat} (h : k < M.length) : (M.map fun r => r.getD j 0).getD k 0 = en M k j := by
  rw [getD_map' _ _ _ [] _ h]; rfl
theorem en_mul {n : Nat} {A B : List (List Int)} (a : Sq n A) (b : Sq n B) {i j : Nat} (hi : i < n) (hj : j < n) : en (mulM n A B) i j = Sm n fun k => en A i k * en B k j := by
  have e1 : (mulM n A B).getD i [] = (trM n B).map fun c => dotL (A.getD i []) c := by
    unfold mulM
    rw [getD_map' _ _ _ [] _ (by rw [a.len]; exact hi)]
  unfold en
  rw [e1, getD_map' _ _ _ [] _ (by rw [trM_length]; exact hj), trM_at hj, dotL_Sm n _ _ (row_of a hi) (by simpa using b.len)]
  refine Sm_congr fun k hk => ?_
  rw [col_get (by rw [b.len]; exact hk)]
  rfl
theorem img_get {n : Nat} {M : List (List Int)} {r : List Int} (s : Sq n M) (hr : r.length = n) {i : Nat} (hi : i < n) : (imgL M r).getD i 0 = Sm n fun k => en M i k * r.getD k 0 := by
  unfold imgL
  rw [getD_map' _ _ _ [] _ (by rw [s.len]; exact hi), dotL_Sm n _ _ (row_of s hi) hr]
  rfl
theorem img_length {M : List (List Int)} {r : List Int} : (imgL M r).length = M.length := by simp [imgL]
theorem val_Sm {n : Nat} {M : List (List Int)} {r : List Int} (s : Sq n M) (hr : r.length = n) : valL M r = Sm n fun i => (Sm n fun k => en M i k * r.getD k 0) * r.getD i 0 := by
  unfold valL
  rw [dotL_Sm n _ _ (img_length.trans s.len) hr]
  exact Sm_congr fun k hk => by rw [img_get s hr hk]
theorem row_ext {n : Nat} {x y : List Int} (hx : x.length = n) (hy : y.length = n) (h : ∀ i, i < n → x.getD i 0 = y.getD i 0) : x = y := by
  apply List.ext_getElem (by omega)
  intro i h1 h2
  have := h i (by omega)
  simpa [h1, h2] using this
theorem Sq.ext {n : Nat} {A B : List (List Int)} (a : Sq n A) (b : Sq n B) (h : ∀ i j, i < n → j < n → en A i j = en B i j) : A = B := by
  apply List.ext_getElem (by rw [a.len, b.len])
  intro i h1 h2
  refine row_ext (a.row _ (List.getElem_mem h1)) (b.row _ (List.getElem_mem h2)) fun j hj => ?_
  have := h i j (by have := a.len; omega) hj
  simpa [en, h1, h2] using this
/-! ### products -/
theorem mulM_assoc {n : Nat} {A B C : List (List Int)} (a : Sq n A) (b : Sq n B) (c : Sq n C) : mulM n (mulM n A B) C = mulM n A (mulM n B C) := by
  refine Sq.ext a.mul.mul a.mul fun i j hi hj => ?_
  rw [en_mul a.mul c hi hj, en_mul a b.mul hi hj]
  rw [Sm_congr (g := fun k => Sm n fun l => en A i l * en B l k * en C k j) fun k hk => by rw [en_mul a b hi hk, Sm_mulr], Sm_swap]
  refine Sm_congr fun k hk => ?_
  rw [en_mul b c hk hj, ← Sm_mul]
  exact Sm_congr fun l hl => Int.mul_assoc _ _ _
theorem trM_trM {n : Nat} {A : List (List Int)} (a : Sq n A) : trM n (trM n A) = A :=
  Sq.ext a.tr.tr a fun i j hi hj => by rw [en_tr a.tr hi hj, en_tr a hj hi]
theorem trM_mul {n : Nat} {A B : List (List Int)} (a : Sq n A) (b : Sq n B) : trM n (mulM n A B) = mulM n (trM n B) (trM n A) := by
  refine Sq.ext a.mul.tr b.tr.mul fun i j hi hj => ?_
  rw [en_tr a.mul hi hj, en_mul a b hj hi, en_mul b.tr a.tr hi hj]
  exact Sm_congr fun k hk => by rw [en_tr b hi hk, en_tr a hk hj, Int.mul_comm]
def mkM (n : Nat) (f : Nat → Nat → Int) : List (List Int) := (List.range n).map fun i => (List.range n).map fun j => f i j
theorem en_mk {n : Nat} {f : Nat → Nat → Int} {i j : Nat} (hi : i < n) (hj : j < n) : en (mkM n f) i j = f i j := by
  unfold en mkM
  rw [getD_map' _ _ _ 0 _ (by simpa using hi), getD_map' _ _ _ 0 _ (by simpa using hj), getD_range n i hi, getD_range n j hj]
theorem mkM_sq {n : Nat} {f : Nat → Nat → Int} (p : 0 < n) (q : n < 100000) : Sq n (mkM n f) := by
  refine ⟨by simp [mkM], fun r hr => ?_, p, q⟩
  simp only [mkM, List.mem_map, List.mem_range] at hr
  obtain ⟨i, _, rfl⟩ := hr
  simp
def idM (n : Nat) : List (List Int) := mkM n fun i j => if i = j then 1 else 0
theorem mul_id {n : Nat} {A : List (List Int)} (a : Sq n A) : mulM n A (idM n) = A := by
  have s : Sq n (idM n) := mkM_sq a.pos a.few
  refine Sq.ext a.mul a fun i j hi hj => ?_
  rw [en_mul a s hi hj, Sm_congr (g := fun k => if k = j then en A i k else 0) fun k hk => by rw [show en (idM n) k j = _ from en_mk hk hj]; split <;> simp, Sm_pick _ _ _ hj]
theorem id_mul {n : Nat} {A : List (List Int)} (a : Sq n A) : mulM n (idM n) A = A := by
  have s : Sq n (idM n) := mkM_sq a.pos a.few
  refine Sq.ext s.mul a fun i j hi hj => ?_
  rw [en_mul s a hi hj, Sm_congr (g := fun k => if k = i then en A k j else 0) fun k hk => by
    rw [show en (idM n) i k = _ from en_mk hi hk]
    by_cases c : i = k
    · rw [if_pos c, if_pos c.symm, Int.one_mul]
    · rw [if_neg c, if_neg (Ne.symm c), Int.zero_mul], Sm_pick _ _ _ hi]
theorem trM_id {n : Nat} (p : 0 < n) (q : n < 100000) : trM n (idM n) = idM n := by
  have s : Sq n (idM n) := mkM_sq p q
  refine Sq.ext s.tr s fun i j hi hj => ?_
  rw [en_tr s hi hj, show en (idM n) j i = _ from en_mk hj hi, show en (idM n) i j = _ from en_mk hi hj]
  by_cases c : i = j
  · rw [if_pos c, if_pos c.symm]
  · rw [if_neg c, if_neg (Ne.symm c)]
/-! ### tables and matrices -/
section
variable {n : Nat} {T U V O : List (List Int)} {r : List Int}
theorem led_sq (u : Sq n U) : Sq n (ledM n T U) := u.tr.mul
theorem mov_sq (u : Sq n U) : Sq n (movM n T U) := u.mul
theorem led_mul (t : Sq n T) (u : Sq n U) (v : Sq n V) : ledM n T (mulM n U V) = ledM n (ledM n T U) V := by
  unfold ledM
  rw [trM_mul u v, mulM_assoc v.tr u.tr t.mul, ← mulM_assoc t u v, ← mulM_assoc u.tr t.mul v]
theorem mov_mul (t : Sq n T) (u : Sq n U) (v : Sq n V) : movM n T (mulM n U V) = movM n (movM n T V) U := by
  unfold movM
  rw [trM_mul u v, mulM_assoc u v (t.mul), ← mulM_assoc t v.tr u.tr, ← mulM_assoc v t.mul u.tr]
theorem led_id (t : Sq n T) : ledM n T (idM n) = T := by
  unfold ledM
  rw [mul_id t, trM_id t.pos t.few, id_mul t]
theorem mov_id (t : Sq n T) : movM n T (idM n) = T := by
  unfold movM
  rw [trM_id t.pos t.few, mul_id t, id_mul t]
theorem led_other (t : Sq n T) (u : Sq n U) : mulM n (mulM n (trM n U) T) U = ledM n T U := mulM_assoc u.tr t u
theorem mov_other (t : Sq n T) (u : Sq n U) : mulM n (mulM n U T) (trM n U) = movM n T U := mulM_assoc u t u.tr
/-- symmetric -/
def Sy (n : Nat) (T : List (List Int)) : Prop := trM n T = T
theorem Sy.led (t : Sq n T) (u : Sq n U) (h : Sy n T) : Sy n (ledM n T U) := by
  unfold Sy ledM at *
  rw [trM_mul u.tr t.mul, trM_mul t u, trM_trM u, h, mulM_assoc u.tr t u]
theorem Sy.mov (t : Sq n T) (u : Sq n U) (h : Sy n T) : Sy n (movM n T U) := by
  unfold Sy movM at *
  rw [trM_mul u t.mul, trM_mul t u.tr, trM_trM u, h, mulM_assoc u t u.tr]
theorem img_mul (t : Sq n T) (u : Sq n U) (hr : r.length = n) : imgL (mulM n T U) r = imgL T (imgL U r) := by
  have hu : (imgL U r).length = n := img_length.trans u.len
  refine row_ext (img_length.trans t.mul.len) (img_length.trans t.len) fun i hi => ?_
  rw [img_get t.mul hr hi, img_get t hu hi]
  rw [Sm_congr (g := fun k => Sm n fun l => en T i l * en U l k * r.getD k 0) fun k hk => by rw [en_mul t u hi hk, Sm_mulr], Sm_swap]
  refine Sm_congr fun k hk => ?_
  rw [img_get u hr hk, ← Sm_mul]
  exact Sm_congr fun l hl => Int.mul_assoc _ _ _
theorem dot_tr (u : Sq n U) {x y : List Int} (hx : x.length = n) (hy : y.length = n) : dotL (imgL (trM n U) x) y = dotL x (imgL U y) := by
  rw [dotL_Sm n _ _ (img_length.trans u.tr.len) hy, dotL_Sm n _ _ hx (img_length.trans u.len)]
  rw [Sm_congr (g := fun k => Sm n fun l => en U l k * x.getD l 0 * y.getD k 0) fun k hk => by
    rw [img_get u.tr hx hk, ← Sm_mulr]
    exact Sm_congr fun l hl => by rw [en_tr u hk hl], Sm_swap]
  refine Sm_congr fun k hk => ?_
  rw [img_get u hy hk, ← Sm_mul]
  exact Sm_congr fun l hl => by rw [Int.mul_comm (en U k l), Int.mul_assoc]
theorem val_led (t : Sq n T) (u : Sq n U) (hr : r.length = n) : valL (ledM n T U) r = valL T (imgL U r) := by
  unfold valL ledM
  rw [img_mul u.tr t.mul hr, dot_tr u (img_length.trans t.mul.len) hr, img_mul t u hr]
/-- the square of a row -/
def sqM (r : List Int) : List (List Int) := r.map fun x => r.map fun y => x * y
theorem sqM_sq (p : 0 < n) (q : n < 100000) (hr : r.length = n) : Sq n (sqM r) := by
  refine ⟨by simpa [sqM] using hr, fun l hl => ?_, p, q⟩
  simp only [sqM, List.mem_map] at hl
  obtain ⟨x, _, rfl⟩ := hl
  simpa using hr
theorem en_sq (hr : r.length = n) {i j : Nat} (hi : i < n) (hj : j < n) : en (sqM r) i j = r.getD i 0 * r.getD j 0 := by
  unfold en sqM
  rw [getD_map' _ _ _ 0 _ (by omega), getD_map' _ _ _ 0 _ (by omega)]
theorem sq_sym (p : 0 < n) (q : n < 100000) (hr : r.length = n) : Sy n (sqM r) := by
  have s := sqM_sq p q hr
  refine Sq.ext s.tr s fun i j hi hj => ?_
  rw [en_tr s hi hj, en_sq hr hj hi, en_sq hr hi hj, Int.mul_comm]
theorem mov_square (u : Sq n U) (hr : r.length = n) : movM n (sqM r) U = sqM (imgL U r) := by
  have s := sqM_sq u.pos u.few hr
  have hu : (imgL U r).length = n := img_length.trans u.len
  refine Sq.ext (mov_sq u) (sqM_sq u.pos u.few hu) fun i j hi hj => ?_
  unfold movM
  rw [en_mul u s.mul hi hj, en_sq hu hi hj, img_get u hr hi, img_get u hr hj, ← Sm_mulr]
  refine Sm_congr fun k hk => ?_
  rw [en_mul s u.tr hk hj, Sm_congr (g := fun l => r.getD k 0 * (en U j l * r.getD l 0)) fun l hl => by
    rw [en_sq hr hk hl, en_tr u hl hj, Int.mul_assoc, Int.mul_comm (r.getD l 0)], Sm_mul, Int.mul_assoc]
/-- two tables together -/
def togM (A B : List (List Int)) : Int := dotL A.flatten B.flatten
theorem dot_app : ∀ {x y x' y' : List Int}, x.length = y.length → dotL (x ++ x') (y ++ y') = dotL x y + dotL x' y'
  | [], [], _, _, _ => by simp [dotL]
  | a :: x, b :: y, x', y', h => by
    have := dot_app (x := x) (y := y) (x' := x') (y' := y') (by simpa using h)
    simp only [dotL, List.cons_append, List.zipWith_cons_cons, List.sum_cons] at this ⊢
    rw [this]; omega
theorem tog_rows (m : Nat) : ∀ (A B : List (List Int)), A.length = B.length → (∀ r ∈ A, r.length = m) → (∀ r ∈ B, r.length = m) → togM A B = (List.zipWith dotL A B).sum
  | [], [], _, _, _ => rfl
  | a :: A, b :: B, h, ha, hb => by
    have := tog_rows m A B (by simpa using h) (fun r hr => ha r (List.mem_cons_of_mem _ hr)) fun r hr => hb r (List.mem_cons_of_mem _ hr)
    simp only [togM, List.flatten_cons] at this ⊢
    rw [dot_app (by rw [ha a List.mem_cons_self, hb b List.mem_cons_self]), this]
    rfl
theorem zipW_Sm (f : List Int → List Int → Int) : ∀ (n : Nat) (A B : List (List Int)), A.length = n → B.length = n → (List.zipWith f A B).sum = Sm n fun i => f (A.getD i []) (B.getD i [])
  | 0, [], _, _, _ => rfl
  | n + 1, a :: A, b :: B, h, k => by
    rw [Sm_shift]
    have := zipW_Sm f n A B (by simpa using h) (by simpa using k)
    simp only [List.zipWith_cons_cons, List.sum_cons, List.getD_cons_zero, List.getD_cons_succ]
    rw [this]
theorem tog_Sm (a : Sq n T) (b : Sq n O) : togM T O = Sm n fun i => Sm n fun j => en T i j * en O i j := by
  rw [tog_rows n T O (by rw [a.len, b.len]) a.row b.row, zipW_Sm _ n _ _ a.len b.len]
  exact Sm_congr fun i hi => by rw [dotL_Sm n _ _ (row_of a hi) (row_of b hi)]; rfl
theorem tog_comm (a : Sq n T) (b : Sq n O) : togM T O = togM O T := by
  rw [tog_Sm a b, tog_Sm b a]
  exact Sm_congr fun i _ => Sm_congr fun j _ => Int.mul_comm _ _
theorem tog_square (a : Sq n T) (hr : r.length = n) : togM T (sqM r) = valL T r := by
  rw [tog_Sm a (sqM_sq a.pos a.few hr), val_Sm a hr]
  refine Sm_congr fun i hi => ?_
  rw [← Sm_mulr]
  exact Sm_congr fun j hj => by rw [en_sq hr hi hj, Int.mul_assoc, Int.mul_comm (r.getD i 0)]
theorem tog_moved (t : Sq n T) (o : Sq n O) (u : Sq n U) : togM (movM n T U) O = togM T (ledM n O U) := by
  rw [tog_Sm (mov_sq u) o, tog_Sm t (led_sq u)]
  -- both are the sum over i j k l of U i k T k l U j l O i j
  have L : ∀ i j, i < n → j < n → en (movM n T U) i j * en O i j = Sm n fun k => Sm n fun l => en T k l * (en U i k * (en O i j * en U j l)) := fun i j hi hj => by
    unfold movM
    rw [en_mul u t.mul hi hj, ← Sm_mulr]
    refine Sm_congr fun k hk => ?_
    rw [en_mul t u.tr hk hj, ← Sm_mul, ← Sm_mulr]
    refine Sm_congr fun l hl => ?_
    rw [en_tr u hl hj]
    grind
  have R : ∀ k l, k < n → l < n → en T k l * en (ledM n O U) k l = Sm n fun i => Sm n fun j => en T k l * (en U i k * (en O i j * en U j l)) := fun k l hk hl => by
    unfold ledM
    rw [en_mul u.tr o.mul hk hl, ← Sm_mul]
    refine Sm_congr fun i hi => ?_
    rw [en_tr u hk hi, en_mul o u hi hl, ← Sm_mul, ← Sm_mul]
  rw [Sm_congr (g := fun i => Sm n fun j => Sm n fun k => Sm n fun l => en T k l * (en U i k * (en O i j * en U j l))) fun i hi => Sm_congr fun j hj => L i j hi hj]
  rw [Sm_congr (f := fun k => Sm n fun l => en T k l * en (ledM n O U) k l) (g := fun k => Sm n fun l => Sm n fun i => Sm n fun j => en T k l * (en U i k * (en O i j * en U j l))) fun k hk => Sm_congr fun l hl => R k l hk hl]
  rw [Sm_congr (g := fun i => Sm n fun k => Sm n fun j => Sm n fun l => en T k l * (en U i k * (en O i j * en U j l))) fun i _ => Sm_swap _ _ _, Sm_swap]
  refine Sm_congr fun k _ => ?_
  rw [Sm_congr (g := fun i => Sm n fun l => Sm n fun j => en T k l * (en U i k * (en O i j * en U j l))) fun i _ => Sm_swap _ _ _, Sm_swap]
end
end My
namespace My
/-! ### determinants, as the program tells them -/
def det2 (M : List (List Int)) : Int := en M 0 0 * en M 1 1 - en M 0 1 * en M 1 0
def det3 (M : List (List Int)) : Int :=
  en M 0 0 * (en M 1 1 * en M 2 2 - en M 1 2 * en M 2 1) - en M 0 1 * (en M 1 0 * en M 2 2 - en M 1 2 * en M 2 0) + en M 0 2 * (en M 1 0 * en M 2 1 - en M 1 1 * en M 2 0)
def two4 (M : List (List Int)) (r s i j : Nat) : Int := en M r i * en M s j - en M r j * en M s i
def det4 (M : List (List Int)) : Int :=
  two4 M 0 1 0 1 * two4 M 2 3 2 3 - two4 M 0 1 0 2 * two4 M 2 3 1 3 + two4 M 0 1 0 3 * two4 M 2 3 1 2
    + two4 M 0 1 1 2 * two4 M 2 3 0 3 - two4 M 0 1 1 3 * two4 M 2 3 0 2 + two4 M 0 1 2 3 * two4 M 2 3 0 1
def detP (M : List (List Int)) : Int := if M.length = 2 then det2 M else if M.length = 3 then det3 M else if M.length = 4 then det4 M else detL M
def sg (r c : Nat) : Int := if (r + c) % 2 = 1 then -1 else 1
def adjP (M : List (List Int)) : List (List Int) := (List.range M.length).map fun r => (List.range M.length).map fun c => sg r c * detP (minorM M c r)
def undP (M : List (List Int)) : List (List Int) := (adjP M).map fun l => l.map fun x => detP M * x
theorem adjP_mk (M : List (List Int)) : adjP M = mkM M.length fun r c => sg r c * detP (minorM M c r) := rfl
section
variable {n : Nat} {M : List (List Int)}
theorem adjP_sq (s : Sq n M) : Sq n (adjP M) := by
  rw [adjP_mk, s.len]; exact mkM_sq s.pos s.few
theorem en_adj (s : Sq n M) {r c : Nat} (hr : r < n) (hc : c < n) : en (adjP M) r c = sg r c * detP (minorM M c r) := by
  rw [adjP_mk, s.len]; exact en_mk hr hc
theorem undP_sq (s : Sq n M) : Sq n (undP M) := by
  have a := adjP_sq s
  refine ⟨by simpa [undP] using a.len, fun l hl => ?_, s.pos, s.few⟩
  simp only [undP, List.mem_map] at hl
  obtain ⟨l0, h0, rfl⟩ := hl
  simpa using a.row _ h0
theorem en_und (s : Sq n M) {r c : Nat} (hr : r < n) (hc : c < n) : en (undP M) r c = detP M * en (adjP M) r c := by
  have a := adjP_sq s
  unfold en undP
  rw [getD_map' _ _ _ [] _ (by rw [a.len]; exact hr), getD_map' _ _ _ 0 _ (by rw [row_of a hr]; exact hc)]
theorem getD_erase {α : Type} (l : List α) (i a : Nat) (d : α) : (l.eraseIdx i).getD a d = l.getD (if a < i then a else a + 1) d := by
  rw [List.getD_eq_getElem?_getD, List.getD_eq_getElem?_getD, List.getElem?_eraseIdx]
  split <;> rfl
theorem en_minor (s : Sq n M) {i j a b : Nat} (hi : i < n) (ha : a + 1 < n) : en (minorM M i j) a b = en M (if a < i then a else a + 1) (if b < j then b else b + 1) := by
  unfold en minorM
  have hl : (M.eraseIdx i).length = n - 1 := by rw [List.length_eraseIdx, if_pos (by rw [s.len]; exact hi), s.len]
  rw [getD_map' _ _ _ [] _ (by omega), getD_erase, getD_erase]
theorem minor_len (s : Sq n M) {i j : Nat} (hi : i < n) : (minorM M i j).length = n - 1 := by
  simp only [minorM, List.length_map]
  rw [List.length_eraseIdx, if_pos (by rw [s.len]; exact hi), s.len]
theorem detL_one (x : Int) : detL [[x]] = x := by
  by_cases h : x = 0
  · subst h; rfl
  · simp [detL, detGo, pivAt, List.findIdx?_cons, h]
end
theorem lt2 {i : Nat} (h : i < 2) : i = 0 ∨ i = 1 := by omega
theorem lt3 {i : Nat} (h : i < 3) : i = 0 ∨ i = 1 ∨ i = 2 := by omega
theorem lt4 {i : Nat} (h : i < 4) : i = 0 ∨ i = 1 ∨ i = 2 ∨ i = 3 := by omega
section
variable {M : List (List Int)}
theorem detP_2 (s : Sq 2 M) : detP M = det2 M := by simp [detP, s.len]
theorem detP_3 (s : Sq 3 M) : detP M = det3 M := by simp [detP, s.len]
theorem detP_4 (s : Sq 4 M) : detP M = det4 M := by simp [detP, s.len]
theorem minor_2 (s : Sq 2 M) {i j : Nat} (hi : i < 2) (hj : j < 2) : detP (minorM M i j) = en M (1 - i) (1 - j) := by
  obtain ⟨a, b, rfl⟩ : ∃ a b, M = [a, b] := by
    match M, s.len with
    | [a, b], _ => exact ⟨a, b, rfl⟩
  have ra := s.row a (by simp)
  have rb := s.row b (by simp)
  obtain ⟨a0, a1, rfl⟩ : ∃ x y, a = [x, y] := by
    match a, ra with
    | [x, y], _ => exact ⟨x, y, rfl⟩
  obtain ⟨b0, b1, rfl⟩ : ∃ x y, b = [x, y] := by
    match b, rb with
    | [x, y], _ => exact ⟨x, y, rfl⟩
  rcases lt2 hi with rfl | rfl <;> rcases lt2 hj with rfl | rfl
  · exact detL_one b1
  · exact detL_one b0
  · exact detL_one a1
  · exact detL_one a0
theorem minor_3 (s : Sq 3 M) {i j : Nat} (hi : i < 3) : detP (minorM M i j) = det2 (minorM M i j) := by
  unfold detP
  rw [if_pos (minor_len s hi)]
theorem minor_4 (s : Sq 4 M) {i j : Nat} (hi : i < 4) : detP (minorM M i j) = det3 (minorM M i j) := by
  unfold detP
  rw [if_neg (by rw [minor_len s hi]; decide), if_pos (minor_len s hi)]
theorem mul_adj2 (s : Sq 2 M) {i j : Nat} (hi : i < 2) (hj : j < 2) : Sm 2 (fun k => en M i k * en (adjP M) k j) = (if i = j then detP M else 0) ∧ Sm 2 (fun k => en (adjP M) i k * en M k j) = (if i = j then detP M else 0) := by
  simp only [Sm]
  rw [en_adj s (by decide) hj, en_adj s (by decide) hj, en_adj s hi (by decide), en_adj s hi (by decide), minor_2 s hj (by decide), minor_2 s hj (by decide), minor_2 s (by decide) hi, minor_2 s (by decide) hi, detP_2 s, det2]
  rcases lt2 hi with rfl | rfl <;> rcases lt2 hj with rfl | rfl <;> simp [sg] <;> grind
theorem mul_adj3 (s : Sq 3 M) {i j : Nat} (hi : i < 3) (hj : j < 3) : Sm 3 (fun k => en M i k * en (adjP M) k j) = (if i = j then detP M else 0) ∧ Sm 3 (fun k => en (adjP M) i k * en M k j) = (if i = j then detP M else 0) := by
  simp only [Sm]
  rw [en_adj s (by decide) hj, en_adj s (by decide) hj, en_adj s (by decide) hj, en_adj s hi (by decide), en_adj s hi (by decide), en_adj s hi (by decide), detP_3 s, det3]
  simp only [minor_3 s hj, minor_3 s (show 0 < 3 by decide), minor_3 s (show 1 < 3 by decide), minor_3 s (show 2 < 3 by decide), det2]
  simp only [en_minor s hj (show 0 + 1 < 3 by decide), en_minor s hj (show 1 + 1 < 3 by decide), en_minor s (show 0 < 3 by decide) (show 0 + 1 < 3 by decide), en_minor s (show 0 < 3 by decide) (show 1 + 1 < 3 by decide),
    en_minor s (show 1 < 3 by decide) (show 0 + 1 < 3 by decide), en_minor s (show 1 < 3 by decide) (show 1 + 1 < 3 by decide), en_minor s (show 2 < 3 by decide) (show 0 + 1 < 3 by decide), en_minor s (show 2 < 3 by decide) (show 1 + 1 < 3 by decide)]
  rcases lt3 hi with rfl | rfl | rfl <;> rcases lt3 hj with rfl | rfl | rfl <;> simp [sg] <;> grind
theorem mul_adj4 (s : Sq 4 M) {i j : Nat} (hi : i < 4) (hj : j < 4) : Sm 4 (fun k => en M i k * en (adjP M) k j) = (if i = j then detP M else 0) ∧ Sm 4 (fun k => en (adjP M) i k * en M k j) = (if i = j then detP M else 0) := by
  simp only [Sm]
  rw [en_adj s (by decide) hj, en_adj s (by decide) hj, en_adj s (by decide) hj, en_adj s (by decide) hj, en_adj s hi (by decide), en_adj s hi (by decide), en_adj s hi (by decide), en_adj s hi (by decide), detP_4 s, det4]
  simp only [minor_4 s hj, minor_4 s (show 0 < 4 by decide), minor_4 s (show 1 < 4 by decide), minor_4 s (show 2 < 4 by decide), minor_4 s (show 3 < 4 by decide), det3, two4]
  have E : ∀ {x y a b : Nat}, x < 4 → a + 1 < 4 → en (minorM M x y) a b = en M (if a < x then a else a + 1) (if b < y then b else b + 1) := fun hx ha => en_minor s hx ha
  simp only [E hj (show 0 + 1 < 4 by decide), E hj (show 1 + 1 < 4 by decide), E hj (show 2 + 1 < 4 by decide),
    E (show 0 < 4 by decide) (show 0 + 1 < 4 by decide), E (show 0 < 4 by decide) (show 1 + 1 < 4 by decide), E (show 0 < 4 by decide) (show 2 + 1 < 4 by decide),
    E (show 1 < 4 by decide) (show 0 + 1 < 4 by decide), E (show 1 < 4 by decide) (show 1 + 1 < 4 by decide), E (show 1 < 4 by decide) (show 2 + 1 < 4 by decide),
    E (show 2 < 4 by decide) (show 0 + 1 < 4 by decide), E (show 2 < 4 by decide) (show 1 + 1 < 4 by decide), E (show 2 < 4 by decide) (show 2 + 1 < 4 by decide),
    E (show 3 < 4 by decide) (show 0 + 1 < 4 by decide), E (show 3 < 4 by decide) (show 1 + 1 < 4 by decide), E (show 3 < 4 by decide) (show 2 + 1 < 4 by decide)]
  rcases lt4 hi with rfl | rfl | rfl | rfl <;> rcases lt4 hj with rfl | rfl | rfl | rfl <;> simp [sg] <;> grind
end
end My
namespace My
/-! ### rows: exchanged, added, turned over -/
section
variable {a b c d : List Int}
theorem detP_two : detP [a, b] = a.getD 0 0 * b.getD 1 0 - a.getD 1 0 * b.getD 0 0 := rfl
theorem detP_three : detP [a, b, c] = a.getD 0 0 * (b.getD 1 0 * c.getD 2 0 - b.getD 2 0 * c.getD 1 0) - a.getD 1 0 * (b.getD 0 0 * c.getD 2 0 - b.getD 2 0 * c.getD 0 0) + a.getD 2 0 * (b.getD 0 0 * c.getD 1 0 - b.getD 1 0 * c.getD 0 0) := rfl
def tw (a b : List Int) (i j : Nat) : Int := a.getD i 0 * b.getD j 0 - a.getD j 0 * b.getD i 0
theorem detP_four : detP [a, b, c, d] = tw a b 0 1 * tw c d 2 3 - tw a b 0 2 * tw c d 1 3 + tw a b 0 3 * tw c d 1 2 + tw a b 1 2 * tw c d 0 3 - tw a b 1 3 * tw c d 0 2 + tw a b 2 3 * tw c d 0 1 := rfl
end
def N4 (n : Nat) : Prop := n = 2 ∨ n = 3 ∨ n = 4
theorem len2 {α : Type} {M : List α} (h : M.length = 2) : ∃ a b, M = [a, b] := by
  match M, h with
  | [a, b], _ => exact ⟨a, b, rfl⟩
theorem len3 {α : Type} {M : List α} (h : M.length = 3) : ∃ a b c, M = [a, b, c] := by
  match M, h with
  | [a, b, c], _ => exact ⟨a, b, c, rfl⟩
theorem len4 {α : Type} {M : List α} (h : M.length = 4) : ∃ a b c d, M = [a, b, c, d] := by
  match M, h with
  | [a, b, c, d], _ => exact ⟨a, b, c, d, rfl⟩
theorem det_swap {n : Nat} (h4 : N4 n) (pre l : List (List Int)) (x y : List Int) (h : (pre ++ x :: y :: l).length = n) : detP (pre ++ y :: x :: l) = - detP (pre ++ x :: y :: l) := by
  have hl : pre.length + l.length + 2 = n := by simp at h; omega
  match pre, l, h4, hl with
  | [], [], .inl e, _ => simp only [List.nil_append, detP_two]; grind
  | [], [u], .inr (.inl e), _ => simp only [List.nil_append, detP_three]; grind
  | [u], [], .inr (.inl e), _ => simp only [List.cons_append, List.nil_append, detP_three]; grind
  | [], [u, v], .inr (.inr e), _ => simp only [List.nil_append, detP_four, tw]; grind
  | [u], [v], .inr (.inr e), _ => simp only [List.cons_append, List.nil_append, detP_four, tw]; grind
  | [u, v], [], .inr (.inr e), _ => simp only [List.cons_append, List.nil_append, detP_four, tw]; grind
  | [], [], .inr (.inl e), k => simp at k; omega
  | [], [], .inr (.inr e), k => simp at k; omega
  | [], [_], .inl e, k => simp at k; omega
  | [], [_], .inr (.inr e), k => simp at k; omega
  | [_], [], .inl e, k => simp at k; omega
  | [_], [], .inr (.inr e), k => simp at k; omega
  | [], [_, _], .inl e, k => simp at k; omega
  | [], [_, _], .inr (.inl e), k => simp at k; omega
  | [_], [_], .inl e, k => simp at k; omega
  | [_], [_], .inr (.inl e), k => simp at k; omega
  | [_, _], [], .inl e, k => simp at k; omega
  | [_, _], [], .inr (.inl e), k => simp at k; omega
  | [], _ :: _ :: _ :: _, e, k => simp at k; rcases e with e | e | e <;> omega
  | [_], _ :: _ :: _, e, k => simp at k; rcases e with e | e | e <;> omega
  | [_, _], _ :: _, e, k => simp at k; rcases e with e | e | e <;> omega
  | _ :: _ :: _ :: _, _, e, k => simp at k; rcases e with e | e | e <;> omega
theorem det_perm {n : Nat} (h4 : N4 n) {l1 l2 : List (List Int)} (p : l1.Perm l2) : ∀ pre : List (List Int), (pre ++ l1).length = n → (detP (pre ++ l1)).natAbs = (detP (pre ++ l2)).natAbs := by
  induction p with
  | nil => intro pre _; rfl
  | @cons x l1 l2 p ih =>
    intro pre h
    have := ih (pre ++ [x]) (by simpa using h)
    simpa using this
  | swap x y l =>
    intro pre h
    rw [det_swap h4 pre l x y (by simpa using h), Int.natAbs_neg]
  | @trans l1 l2 l3 p q ih1 ih2 =>
    intro pre h
    rw [ih1 pre h, ih2 pre (by rw [List.length_append, ← p.length_eq]; simpa using h)]
theorem getD_zipW (f : Int → Int → Int) {a b : List Int} {j : Nat} (ha : j < a.length) (hb : j < b.length) : (List.zipWith f a b).getD j 0 = f (a.getD j 0) (b.getD j 0) := by
  simp [List.getD_eq_getElem?_getD, List.getElem?_zipWith, ha, hb]
/-- a row and so many times another one -/
def addR (m : Int) (a b : List Int) : List Int := List.zipWith (fun x y => x + m * y) a b
def opR (M : List (List Int)) (i j : Nat) (m : Int) : List (List Int) := M.set i (addR m (M.getD i []) (M.getD j []))
theorem addR_len {n : Nat} {m : Int} {a b : List Int} (ha : a.length = n) (hb : b.length = n) : (addR m a b).length = n := by simp [addR, ha, hb]
theorem addR_get {n : Nat} {m : Int} {a b : List Int} (ha : a.length = n) (hb : b.length = n) {j : Nat} (h : j < n) : (addR m a b).getD j 0 = a.getD j 0 + m * b.getD j 0 := getD_zipW _ (by omega) (by omega)
theorem opR_sq {n : Nat} {M : List (List Int)} (s : Sq n M) {i j : Nat} (hi : i < n) (hj : j < n) (m : Int) : Sq n (opR M i j m) := by
  refine ⟨by simp [opR, s.len], fun r hr => ?_, s.pos, s.few⟩
  rcases List.mem_or_eq_of_mem_set hr with h | rfl
  · exact s.row r h
  · exact addR_len (row_of s hi) (row_of s hj)
theorem det_opR {n : Nat} (h4 : N4 n) {M : List (List Int)} (s : Sq n M) {i j : Nat} (hi : i < n) (hj : j < n) (hij : i ≠ j) (m : Int) : detP (opR M i j m) = detP M := by
  rcases h4 with rfl | rfl | rfl
  · obtain ⟨a, b, rfl⟩ := len2 s.len
    have ha := s.row a (by simp)
    have hb := s.row b (by simp)
    have g := fun {x y : List Int} (hx : x.length = 2) (hy : y.length = 2) => And.intro (addR_get (m := m) hx hy (show 0 < 2 by decide)) (addR_get (m := m) hx hy (show 1 < 2 by decide))
    rcases lt2 hi with rfl | rfl <;> rcases lt2 hj with rfl | rfl <;> first | exact absurd rfl hij | skip
    · show detP [addR m a b, b] = _
      rw [detP_two, detP_two, (g ha hb).1, (g ha hb).2]; grind
    · show detP [a, addR m b a] = _
      rw [detP_two, detP_two, (g hb ha).1, (g hb ha).2]; grind
  · obtain ⟨a, b, c, rfl⟩ := len3 s.len
    have ha := s.row a (by simp)
    have hb := s.row b (by simp)
    have hc := s.row c (by simp)
    have g := fun {x y : List Int} (hx : x.length = 3) (hy : y.length = 3) => And.intro (addR_get (m := m) hx hy (show 0 < 3 by decide)) (And.intro (addR_get (m := m) hx hy (show 1 < 3 by decide)) (addR_get (m := m) hx hy (show 2 < 3 by decide)))
    rcases lt3 hi with rfl | rfl | rfl <;> rcases lt3 hj with rfl | rfl | rfl <;> first | exact absurd rfl hij | skip
    · show detP [addR m a b, b, c] = _
      rw [detP_three, detP_three, (g ha hb).1, (g ha hb).2.1, (g ha hb).2.2]; grind
    · show detP [addR m a c, b, c] = _
      rw [detP_three, detP_three, (g ha hc).1, (g ha hc).2.1, (g ha hc).2.2]; grind
    · show detP [a, addR m b a, c] = _
      rw [detP_three, detP_three, (g hb ha).1, (g hb ha).2.1, (g hb ha).2.2]; grind
    · show detP [a, addR m b c, c] = _
      rw [detP_three, detP_three, (g hb hc).1, (g hb hc).2.1, (g hb hc).2.2]; grind
    · show detP [a, b, addR m c a] = _
      rw [detP_three, detP_three, (g hc ha).1, (g hc ha).2.1, (g hc ha).2.2]; grind
    · show detP [a, b, addR m c b] = _
      rw [detP_three, detP_three, (g hc hb).1, (g hc hb).2.1, (g hc hb).2.2]; grind
  · obtain ⟨a, b, c, d, rfl⟩ := len4 s.len
    have ha := s.row a (by simp)
    have hb := s.row b (by simp)
    have hc := s.row c (by simp)
    have hd := s.row d (by simp)
    have g := fun {x y : List Int} (hx : x.length = 4) (hy : y.length = 4) => And.intro (addR_get (m := m) hx hy (show 0 < 4 by decide)) (And.intro (addR_get (m := m) hx hy (show 1 < 4 by decide)) (And.intro (addR_get (m := m) hx hy (show 2 < 4 by decide)) (addR_get (m := m) hx hy (show 3 < 4 by decide))))
    have fin : ∀ {p q r t p' q' r' t' : List Int}, (∀ i j, i < 4 → j < 4 → tw p q i j = tw p' q' i j) → (∀ i j, i < 4 → j < 4 → tw r t i j = tw r' t' i j) → detP [p, q, r, t] = detP [p', q', r', t'] := fun h1 h2 => by
      rw [detP_four, detP_four]
      simp only [h1 0 1 (by decide) (by decide), h1 0 2 (by decide) (by decide), h1 0 3 (by decide) (by decide), h1 1 2 (by decide) (by decide), h1 1 3 (by decide) (by decide), h1 2 3 (by decide) (by decide),
        h2 0 1 (by decide) (by decide), h2 0 2 (by decide) (by decide), h2 0 3 (by decide) (by decide), h2 1 2 (by decide) (by decide), h2 1 3 (by decide) (by decide), h2 2 3 (by decide) (by decide)]
    rcases lt4 hi with rfl | rfl | rfl | rfl <;> rcases lt4 hj with rfl | rfl | rfl | rfl <;> first | exact absurd rfl hij | skip
    · show detP [addR m a b, b, c, d] = _
      refine fin (fun i j hi hj => ?_) fun i j _ _ => rfl
      simp only [tw, addR_get ha hb hi, addR_get ha hb hj]; grind
    · show detP [addR m a c, b, c, d] = _
      rw [detP_four, detP_four]; simp only [tw, g ha hc]; grind
    · show detP [addR m a d, b, c, d] = _
      rw [detP_four, detP_four]; simp only [tw, g ha hd]; grind
    · show detP [a, addR m b a, c, d] = _
      refine fin (fun i j hi hj => ?_) fun i j _ _ => rfl
      simp only [tw, addR_get hb ha hi, addR_get hb ha hj]; grind
    · show detP [a, addR m b c, c, d] = _
      rw [detP_four, detP_four]; simp only [tw, g hb hc]; grind
    · show detP [a, addR m b d, c, d] = _
      rw [detP_four, detP_four]; simp only [tw, g hb hd]; grind
    · show detP [a, b, addR m c a, d] = _
      rw [detP_four, detP_four]; simp only [tw, g hc ha]; grind
    · show detP [a, b, addR m c b, d] = _
      rw [detP_four, detP_four]; simp only [tw, g hc hb]; grind
    · show detP [a, b, addR m c d, d] = _
      refine fin (fun i j _ _ => rfl) fun i j hi hj => ?_
      simp only [tw, addR_get hc hd hi, addR_get hc hd hj]; grind
    · show detP [a, b, c, addR m d a] = _
      rw [detP_four, detP_four]; simp only [tw, g hd ha]; grind
    · show detP [a, b, c, addR m d b] = _
      rw [detP_four, detP_four]; simp only [tw, g hd hb]; grind
    · show detP [a, b, c, addR m d c] = _
      refine fin (fun i j _ _ => rfl) fun i j hi hj => ?_
      simp only [tw, addR_get hd hc hi, addR_get hd hc hj]; grind
/-- signs for rows -/
def sgR (ss : List Int) (M : List (List Int)) : List (List Int) := List.zipWith (fun s r => r.map (s * ·)) ss M
def Ones (ss : List Int) : Prop := ∀ s ∈ ss, s = 1 ∨ s = -1
theorem getD_mul (s : Int) (r : List Int) (j : Nat) : (r.map (s * ·)).getD j 0 = s * r.getD j 0 := by
  by_cases h : j < r.length
  · simp [h]
  · simp [h]
theorem abs_one {s : Int} (h : s = 1 ∨ s = -1) : s.natAbs = 1 := by rcases h with rfl | rfl <;> rfl
theorem det_sgR {n : Nat} (h4 : N4 n) {ss : List Int} {M : List (List Int)} (hs : ss.length = n) (hM : M.length = n) (o : Ones ss) : (detP (sgR ss M)).natAbs = (detP M).natAbs := by
  rcases h4 with rfl | rfl | rfl
  · obtain ⟨a, b, rfl⟩ := len2 hM
    obtain ⟨p, q, rfl⟩ := len2 hs
    have e : detP (sgR [p, q] [a, b]) = p * (q * detP [a, b]) := by
      show detP [a.map (p * ·), b.map (q * ·)] = _
      rw [detP_two, detP_two]; simp only [getD_mul]; grind
    rw [e, Int.natAbs_mul, Int.natAbs_mul, abs_one (o p (by simp)), abs_one (o q (by simp))]; simp
  · obtain ⟨a, b, c, rfl⟩ := len3 hM
    obtain ⟨p, q, r, rfl⟩ := len3 hs
    have e : detP (sgR [p, q, r] [a, b, c]) = p * (q * (r * detP [a, b, c])) := by
      show detP [a.map (p * ·), b.map (q * ·), c.map (r * ·)] = _
      rw [detP_three, detP_three]; simp only [getD_mul]; grind
    rw [e, Int.natAbs_mul, Int.natAbs_mul, Int.natAbs_mul, abs_one (o p (by simp)), abs_one (o q (by simp)), abs_one (o r (by simp))]; simp
  · obtain ⟨a, b, c, d, rfl⟩ := len4 hM
    obtain ⟨p, q, r, t, rfl⟩ := len4 hs
    have e : detP (sgR [p, q, r, t] [a, b, c, d]) = p * (q * (r * (t * detP [a, b, c, d]))) := by
      show detP [a.map (p * ·), b.map (q * ·), c.map (r * ·), d.map (t * ·)] = _
      have z : ∀ (x y : List Int) (s u : Int) (i j : Nat), tw (x.map (s * ·)) (y.map (u * ·)) i j = s * u * tw x y i j := fun x y s u i j => by
        simp only [tw, getD_mul]; grind
      rw [detP_four, detP_four]; simp only [z]; grind
    rw [e, Int.natAbs_mul, Int.natAbs_mul, Int.natAbs_mul, Int.natAbs_mul, abs_one (o p (by simp)), abs_one (o q (by simp)), abs_one (o r (by simp)), abs_one (o t (by simp))]; simp
/-! ### what such rows make of a product -/
def rowM (n : Nat) (B : List (List Int)) (r : List Int) : List Int := (trM n B).map fun c => dotL r c
theorem mulM_map {n : Nat} {A B : List (List Int)} : mulM n A B = A.map (rowM n B) := rfl
theorem rowM_len {n : Nat} {B : List (List Int)} {r : List Int} : (rowM n B r).length = n := by simp [rowM, trM]
theorem rowM_get {n : Nat} {B : List (List Int)} (b : Sq n B) {r : List Int} (hr : r.length = n) {j : Nat} (hj : j < n) : (rowM n B r).getD j 0 = Sm n fun k => r.getD k 0 * en B k j := by
  unfold rowM
  rw [getD_map' _ _ _ [] _ (by rw [trM_length]; exact hj), trM_at hj, dotL_Sm n _ _ hr (by simpa using b.len)]
  exact Sm_congr fun k hk => by rw [col_get (by rw [b.len]; exact hk)]
theorem rowM_add {n : Nat} {B : List (List Int)} (b : Sq n B) {x y : List Int} (hx : x.length = n) (hy : y.length = n) (m : Int) : rowM n B (addR m x y) = addR m (rowM n B x) (rowM n B y) := by
  refine row_ext rowM_len (addR_len rowM_len rowM_len) fun j hj => ?_
  rw [rowM_get b (addR_len hx hy) hj, addR_get rowM_len rowM_len hj, rowM_get b hx hj, rowM_get b hy hj, ← Sm_mul, ← Sm_add]
  refine Sm_congr fun k hk => ?_
  rw [addR_get hx hy hk]; grind
theorem rowM_sg {n : Nat} {B : List (List Int)} (b : Sq n B) {x : List Int} (hx : x.length = n) (s : Int) : rowM n B (x.map (s * ·)) = (rowM n B x).map (s * ·) := by
  refine row_ext rowM_len (by simp [rowM_len]) fun j hj => ?_
  rw [getD_mul, rowM_get b (by simpa using hx) hj, rowM_get b hx hj, ← Sm_mul]
  exact Sm_congr fun k hk => by rw [getD_mul]; grind
theorem zipW_map2 {α β γ δ : Type} (f : α → β → γ) (g : γ → δ) (h : β → β) (k : α → β → δ) : ∀ (ss : List α) (M : List β), (∀ s ∈ ss, ∀ r ∈ M, g (f s r) = k s r) → (List.zipWith f ss M).map g = List.zipWith k ss M
  | [], _, _ => by simp
  | _ :: _, [], _ => by simp
  | s :: ss, r :: M, e => by
    simp only [List.zipWith_cons_cons, List.map_cons]
    rw [e s (by simp) r (by simp), zipW_map2 f g h k ss M fun s hs r hr => e s (by simp [hs]) r (by simp [hr])]
/-- it changes no determinant but for the sign -/
def Un (n : Nat) (A : List (List Int)) : Prop := Sq n A ∧ ∀ B, Sq n B → (detP (mulM n A B)).natAbs = (detP B).natAbs
section
variable {n : Nat} {A B : List (List Int)}
theorem Un.id (p : 0 < n) (q : n < 100000) : Un n (idM n) := ⟨mkM_sq p q, fun B b => by rw [id_mul b]⟩
theorem Un.op (h4 : N4 n) (u : Un n A) {i j : Nat} (hi : i < n) (hj : j < n) (hij : i ≠ j) (m : Int) : Un n (opR A i j m) := by
  refine ⟨opR_sq u.1 hi hj m, fun B b => ?_⟩
  have e : mulM n (opR A i j m) B = opR (mulM n A B) i j m := by
    unfold opR
    rw [mulM_map, mulM_map, List.map_set, rowM_add b (row_of u.1 hi) (row_of u.1 hj), getD_map' _ _ _ [] _ (by rw [u.1.len]; exact hi), getD_map' _ _ _ [] _ (by rw [u.1.len]; exact hj)]
  rw [e, det_opR h4 u.1.mul hi hj hij, u.2 B b]
theorem Un.perm (h4 : N4 n) (u : Un n A) {A' : List (List Int)} (p : A'.Perm A) : Un n A' := by
  refine ⟨⟨p.length_eq.trans u.1.len, fun r hr => u.1.row r (p.mem_iff.mp hr), u.1.pos, u.1.few⟩, fun B b => ?_⟩
  have q : (mulM n A' B).Perm (mulM n A B) := p.map _
  have := det_perm h4 q [] (by rw [List.nil_append, mulM_length, p.length_eq, u.1.len])
  rw [List.nil_append, List.nil_append] at this
  rw [this, u.2 B b]
theorem sgR_sq {ss : List Int} (s : Sq n A) (hs : ss.length = n) : Sq n (sgR ss A) := by
  refine ⟨by simp [sgR, hs, s.len], fun r hr => ?_, s.pos, s.few⟩
  obtain ⟨i, h, rfl⟩ := List.getElem_of_mem hr
  simp only [sgR, List.getElem_zipWith, List.length_map]
  exact s.row _ (List.getElem_mem _)
theorem Un.sg (h4 : N4 n) (u : Un n A) {ss : List Int} (hs : ss.length = n) (o : Ones ss) : Un n (sgR ss A) := by
  refine ⟨sgR_sq u.1 hs, fun B b => ?_⟩
  have e : mulM n (sgR ss A) B = sgR ss (mulM n A B) := by
    unfold sgR
    rw [mulM_map, mulM_map, zipW_map2 _ _ _root_.id (fun s r => (rowM n B r).map (s * ·)) _ _ fun s _ r hr => rowM_sg b (u.1.row r hr) s, List.zipWith_map_right]
  rw [e, det_sgR h4 hs u.1.mul.len o, u.2 B b]
theorem det_id (h4 : N4 n) : detP (idM n) = 1 := by rcases h4 with rfl | rfl | rfl <;> rfl
theorem Un.det (h4 : N4 n) (u : Un n A) : (detP A).natAbs = 1 := by
  have h := u.2 (idM n) (mkM_sq u.1.pos u.1.few)
  rw [mul_id u.1, det_id h4] at h
  exact h
theorem Un.mul (u : Un n A) (v : Un n B) : Un n (mulM n A B) := ⟨u.1.mul, fun C c => by rw [mulM_assoc u.1 v.1 c, u.2 _ v.1.mul, v.2 C c]⟩
theorem adj_both (h4 : N4 n) (s : Sq n A) {i j : Nat} (hi : i < n) (hj : j < n) : Sm n (fun k => en A i k * en (adjP A) k j) = (if i = j then detP A else 0) ∧ Sm n (fun k => en (adjP A) i k * en A k j) = (if i = j then detP A else 0) := by
  rcases h4 with rfl | rfl | rfl
  · exact mul_adj2 s hi hj
  · exact mul_adj3 s hi hj
  · exact mul_adj4 s hi hj
theorem sq_one {x : Int} (h : x.natAbs = 1) : x * x = 1 := by
  rcases Int.natAbs_eq_iff.mp h with rfl | rfl <;> rfl
theorem mul_und (h4 : N4 n) (s : Sq n A) (h : (detP A).natAbs = 1) : mulM n A (undP A) = idM n := by
  have w := undP_sq s
  refine Sq.ext s.mul (mkM_sq s.pos s.few) fun i j hi hj => ?_
  rw [en_mul s w hi hj, show en (idM n) i j = _ from en_mk hi hj, Sm_congr (g := fun k => detP A * (en A i k * en (adjP A) k j)) fun k hk => by rw [en_und s hk hj]; grind, Sm_mul, (adj_both h4 s hi hj).1]
  split
  · exact sq_one h
  · simp
theorem und_mul (h4 : N4 n) (s : Sq n A) (h : (detP A).natAbs = 1) : mulM n (undP A) A = idM n := by
  have w := undP_sq s
  refine Sq.ext w.mul (mkM_sq s.pos s.few) fun i j hi hj => ?_
  rw [en_mul w s hi hj, show en (idM n) i j = _ from en_mk hi hj, Sm_congr (g := fun k => detP A * (en (adjP A) i k * en A k j)) fun k hk => by rw [en_und s hi hk]; grind, Sm_mul, (adj_both h4 s hi hj).2]
  split
  · exact sq_one h
  · simp
theorem Un.und (h4 : N4 n) (u : Un n A) : Un n (undP A) := by
  have w := undP_sq u.1
  refine ⟨w, fun B b => ?_⟩
  rw [← u.2 _ w.mul, ← mulM_assoc u.1 w b, mul_und h4 u.1 (u.det h4), id_mul b]
end
end My
namespace My
/-! ### how great the numbers are -/
def Ab (b : Nat) (M : List (List Int)) : Prop := ∀ r ∈ M, ∀ x ∈ r, x.natAbs ≤ b
def Rb (b : Nat) (r : List Int) : Prop := ∀ x ∈ r, x.natAbs ≤ b
theorem Ab.mono {a b : Nat} {M : List (List Int)} (h : Ab a M) (k : a ≤ b) : Ab b M := fun r hr x hx => Nat.le_trans (h r hr x hx) k
theorem Rb.mono {a b : Nat} {r : List Int} (h : Rb a r) (k : a ≤ b) : Rb b r := fun x hx => Nat.le_trans (h x hx) k
theorem Rb.get {b : Nat} {r : List Int} (h : Rb b r) (j : Nat) : (r.getD j 0).natAbs ≤ b := by
  by_cases c : j < r.length
  · have e : r.getD j 0 = r[j] := by simp [c]
    rw [e]; exact h _ (List.getElem_mem c)
  · have e : r.getD j 0 = 0 := by simp [c]
    rw [e]; exact Nat.zero_le _
theorem Ab.row {b : Nat} {M : List (List Int)} (h : Ab b M) (i : Nat) : Rb b (M.getD i []) := by
  by_cases c : i < M.length
  · have e : M.getD i [] = M[i] := by simp [c]
    rw [e]; exact h _ (List.getElem_mem c)
  · have e : M.getD i [] = [] := by simp [c]
    rw [e]; exact fun x hx => by cases hx
theorem Ab.en {b : Nat} {M : List (List Int)} (h : Ab b M) (i j : Nat) : (My.en M i j).natAbs ≤ b := (h.row i).get j
theorem Ab.of {n b : Nat} {M : List (List Int)} (s : Sq n M) (h : ∀ i j, i < n → j < n → (My.en M i j).natAbs ≤ b) : Ab b M := by
  intro r hr x hx
  obtain ⟨i, hi, rfl⟩ := List.getElem_of_mem hr
  obtain ⟨j, hj, rfl⟩ := List.getElem_of_mem hx
  have := h i j (by have := s.len; omega) (by have := s.row _ hr; omega)
  simpa [My.en, hi, hj] using this
theorem Rb.of {n b : Nat} {r : List Int} (s : r.length = n) (h : ∀ j, j < n → (r.getD j 0).natAbs ≤ b) : Rb b r := by
  intro x hx
  obtain ⟨j, hj, rfl⟩ := List.getElem_of_mem hx
  have := h j (by omega)
  simpa [hj] using this
theorem Sm_abs {f : Nat → Int} {b : Nat} : ∀ {n : Nat}, (∀ k, k < n → (f k).natAbs ≤ b) → (Sm n f).natAbs ≤ n * b
  | 0, _ => by simp [Sm]
  | n + 1, h => by
    rw [Sm, Nat.succ_mul]
    exact Nat.le_trans (Int.natAbs_add_le _ _) (Nat.add_le_add (Sm_abs fun k hk => h k (by omega)) (h n (by omega)))
theorem mul_abs {x y : Int} {a b : Nat} (hx : x.natAbs ≤ a) (hy : y.natAbs ≤ b) : (x * y).natAbs ≤ a * b := by
  rw [Int.natAbs_mul]; exact Nat.mul_le_mul hx hy
theorem sub_abs {x y : Int} {a b : Nat} (hx : x.natAbs ≤ a) (hy : y.natAbs ≤ b) : (x - y).natAbs ≤ a + b := by omega
theorem add_abs {x y : Int} {a b : Nat} (hx : x.natAbs ≤ a) (hy : y.natAbs ≤ b) : (x + y).natAbs ≤ a + b := by omega
section
variable {n a b : Nat} {A B M : List (List Int)} {r : List Int}
theorem Ab.mul (sa : Sq n A) (sb : Sq n B) (ha : Ab a A) (hb : Ab b B) : Ab (n * (a * b)) (mulM n A B) :=
  Ab.of sa.mul fun i j hi hj => by rw [en_mul sa sb hi hj]; exact Sm_abs fun k _ => mul_abs (ha.en _ _) (hb.en _ _)
theorem Ab.tr (s : Sq n A) (ha : Ab a A) : Ab a (trM n A) := Ab.of s.tr fun i j hi hj => by rw [en_tr s hi hj]; exact ha.en _ _
theorem Ab.led (sa : Sq n A) (sb : Sq n B) (ha : Ab a A) (hb : Ab b B) : Ab (n * (b * (n * (a * b)))) (ledM n A B) := Ab.mul sb.tr sa.mul (hb.tr sb) (Ab.mul sa sb ha hb)
theorem Ab.mov (sa : Sq n A) (sb : Sq n B) (ha : Ab a A) (hb : Ab b B) : Ab (n * (b * (n * (a * b)))) (movM n A B) := Ab.mul sb sa.mul hb (Ab.mul sa sb.tr ha (hb.tr sb))
theorem Rb.img (s : Sq n A) (hr : r.length = n) (ha : Ab a A) (hb : Rb b r) : Rb (n * (a * b)) (imgL A r) :=
  Rb.of (img_length.trans s.len) fun j hj => by rw [img_get s hr hj]; exact Sm_abs fun k _ => mul_abs (ha.en _ _) (hb.get _)
theorem Ab.sq (p : 0 < n) (q : n < 100000) (hr : r.length = n) (hb : Rb b r) : Ab (b * b) (sqM r) := Ab.of (sqM_sq p q hr) fun i j hi hj => by rw [en_sq hr hi hj]; exact mul_abs (hb.get _) (hb.get _)
theorem Ab.id (p : 0 < n) (q : n < 100000) : Ab 1 (idM n) := Ab.of (mkM_sq p q) fun i j hi hj => by
  rw [show My.en (idM n) i j = _ from en_mk hi hj]; split <;> decide
theorem addR_ab {m : Int} {x y : List Int} (hx : Rb a x) (hy : Rb a y) : Rb (a + m.natAbs * a) (addR m x y) := by
  intro z hz
  obtain ⟨i, h, rfl⟩ := List.getElem_of_mem hz
  simp only [addR, List.getElem_zipWith]
  exact add_abs (hx _ (List.getElem_mem _)) (mul_abs (Nat.le_refl _) (hy _ (List.getElem_mem _)))
theorem Ab.op (ha : Ab a A) (i j : Nat) (m : Int) : Ab (a + m.natAbs * a) (opR A i j m) := by
  intro r hr
  rcases List.mem_or_eq_of_mem_set hr with h | rfl
  · exact fun x hx => Nat.le_trans (ha r h x hx) (Nat.le_add_right _ _)
  · exact addR_ab (ha.row i) (ha.row j)
theorem Ab.perm (ha : Ab a A) (p : B.Perm A) : Ab a B := fun r hr => ha r (p.mem_iff.mp hr)
theorem Ab.sg {ss : List Int} (o : Ones ss) (ha : Ab a A) : Ab a (sgR ss A) := by
  intro r hr x hx
  obtain ⟨i, h, rfl⟩ := List.getElem_of_mem hr
  simp only [sgR, List.getElem_zipWith, List.mem_map] at hx
  obtain ⟨y, hy, rfl⟩ := hx
  rw [Int.natAbs_mul, abs_one (o _ (List.getElem_mem _)), Nat.one_mul]
  exact ha _ (List.getElem_mem _) y hy
theorem det2_ab (ha : Ab a M) : (det2 M).natAbs ≤ a * a + a * a := sub_abs (mul_abs (ha.en _ _) (ha.en _ _)) (mul_abs (ha.en _ _) (ha.en _ _))
theorem det3_ab (ha : Ab a M) : (det3 M).natAbs ≤ a * (a * a + a * a) + a * (a * a + a * a) + a * (a * a + a * a) := by
  have t : ∀ i j k l p q, (en M i j * en M k l - en M p q * en M k j).natAbs ≤ a * a + a * a := fun i j k l p q => sub_abs (mul_abs (ha.en _ _) (ha.en _ _)) (mul_abs (ha.en _ _) (ha.en _ _))
  exact add_abs (sub_abs (mul_abs (ha.en _ _) (sub_abs (mul_abs (ha.en _ _) (ha.en _ _)) (mul_abs (ha.en _ _) (ha.en _ _)))) (mul_abs (ha.en _ _) (sub_abs (mul_abs (ha.en _ _) (ha.en _ _)) (mul_abs (ha.en _ _) (ha.en _ _)))))
    (mul_abs (ha.en _ _) (sub_abs (mul_abs (ha.en _ _) (ha.en _ _)) (mul_abs (ha.en _ _) (ha.en _ _))))
theorem Ab.minor (ha : Ab a M) (i j : Nat) : Ab a (minorM M i j) := by
  intro r hr x hx
  simp only [minorM, List.mem_map] at hr
  obtain ⟨l, hl, rfl⟩ := hr
  exact ha l (List.mem_of_mem_eraseIdx hl) x (List.mem_of_mem_eraseIdx hx)
theorem Ab.adj (h4 : N4 n) (s : Sq n M) (ha : Ab a M) (h1 : 1 ≤ a) : Ab (6 * (a * (a * a))) (adjP M) := by
  have k1 : a ≤ a * a := Nat.le_mul_of_pos_left a h1
  have k2 : a * a ≤ a * (a * a) := Nat.mul_le_mul (Nat.le_refl _) k1
  refine Ab.of (adjP_sq s) fun i j hi hj => ?_
  have sgn : ∀ r c, (My.sg r c).natAbs ≤ 1 := fun r c => by unfold My.sg; split <;> decide
  rw [en_adj s hi hj]
  refine Nat.le_trans (mul_abs (sgn i j) (Nat.le_refl _)) ?_
  rw [Nat.one_mul]
  rcases h4 with rfl | rfl | rfl
  · rw [minor_2 s hj hi]
    exact Nat.le_trans (ha.en _ _) (by omega)
  · rw [minor_3 s hj]
    exact Nat.le_trans (det2_ab (ha.minor _ _)) (by omega)
  · rw [minor_4 s hj]
    refine Nat.le_trans (det3_ab (ha.minor _ _)) ?_
    rw [Nat.mul_add]; omega
theorem Ab.und (h4 : N4 n) (s : Sq n M) (ha : Ab a M) (h1 : 1 ≤ a) (hd : (detP M).natAbs = 1) : Ab (6 * (a * (a * a))) (undP M) :=
  Ab.of (undP_sq s) fun i j hi hj => by
    rw [en_und s hi hj]
    exact Nat.le_trans (mul_abs (Nat.le_of_eq hd) ((Ab.adj h4 s ha h1).en i j)) (by omega)
end
end My
namespace My
theorem Wd.of {x : Int} {b : Nat} (h : x.natAbs ≤ b) (hb : b < 2 ^ 399999) : Wd x := Nat.lt_trans (Nat.lt_of_le_of_lt h hb) (Nat.pow_lt_pow_right (by decide) (by decide))
theorem Ab.wd {M : List (List Int)} {b : Nat} (h : Ab b M) (hb : b < 2 ^ 399999) : AllW M := fun r hr x hx => Wd.of (h r hr x hx) hb
theorem Rb.wd {r : List Int} {b : Nat} (h : Rb b r) (hb : b < 2 ^ 399999) : ∀ x ∈ r, Wd x := fun x hx => Wd.of (h x hx) hb
/-- this many bits at most -/
def Tn (x : Int) : Prop := x.natAbs < 2 ^ 399
end My

set_option maxHeartbeats 400000
namespace ZN
open PySem PySem.Spec PyProof.Rows L2 My
theorem pg_or {X : Cx} {e : Expr} {t u : TG} (h : PG X e t) (k : PG X e u) : PG X e (fun v σ H Q => t v σ H Q ∨ u v σ H Q) :=
  ⟨fun pins s σ H v w Q I r hw => hw.elim (fun z => h.run pins s σ H v w Q I r z) fun z => k.run pins s σ H v w Q I r z⟩
/-- a, b, .. = a tuple or a list of that length -/
def gSq (K : PySem.W.Frag) (n : Nat) (t : TGs) : TG := fun v σ H Q => gTup K n t v σ H Q ∨ gLst K n t v σ H Q
theorem pg_seq {X : Cx} {pos : Pos} {es : List Expr} {k : Nat} {t : TGs} {n : Nat} (hc : X.calm = true) (h : PGs X es t)
    (hn : (assignEach es X.env).length = n := by rfl) (hst : (assignEach es X.env).findIdx? (·.1) = none := by rfl) : PG X (.Tuple es k pos) (gSq X.K n t) :=
  pg_or (pg_tup hc h hn hst) (pg_lst hc h hn hst)
theorem gSq_of {K : PySem.W.Frag} {n : Nat} {t : TGs} {k : Bool} {a : Addr} {xs : List V} {σ : L2.St} {H : Hp} {Q : L2.St → Hp → Prop} (h : SqK k K H a xs) (hl : xs.length = n) (q : t xs σ H Q) : gSq K n t (.ref a) σ H Q := by
  cases k
  · exact .inr ⟨a, xs, rfl, h, hl, q⟩
  · exact .inl ⟨a, xs, rfl, h, hl, q⟩
end ZN

set_option maxHeartbeats 400000
namespace My
open PySem PySem.Spec PyProof.Rows L2 ZN
/-- it has this value, and leaves all as it is -/
def Ev (te : TE) (σ : L2.St) (H : Hp) (v : V) : Prop := ∀ Q : VK, Q v H → te σ H Q
section
variable {K : PySem.W.Frag} {σ : L2.St} {H : Hp} {ta tb : TE} {x y : Int} {i j : Nat} {v : V} {a b : List Int} {p q : Nat} {s t : Addr} {k : Bool}
theorem ev_var (h : σ[i]? = some (some v)) : Ev (tVar i) σ H v := fun Q q => ⟨v, h, q⟩
theorem ev_c : Ev (tC v) σ H v := fun Q q => q
theorem ev_add (h : Ev ta σ H (.int x)) (g : Ev tb σ H (.int y)) : Ev (tOp (rI0 fun i j => .int (i + j)) ta tb) σ H (.int (x + y)) := fun Q q => h _ (g _ ⟨x, y, rfl, rfl, q⟩)
theorem ev_sub (h : Ev ta σ H (.int x)) (g : Ev tb σ H (.int y)) : Ev (tOp (rI0 fun i j => .int (i - j)) ta tb) σ H (.int (x - y)) := fun Q q => h _ (g _ ⟨x, y, rfl, rfl, q⟩)
theorem ev_mul (h : Ev ta σ H (.int x)) (g : Ev tb σ H (.int y)) (c : CMulW x y) : Ev (tOp (rI CMulW fun i j => .int (i * j)) ta tb) σ H (.int (x * y)) := fun Q q => h _ (g _ ⟨x, y, rfl, rfl, c, q⟩)
theorem ev_ix (h : σ[p]? = some (some (.ref s))) (g : SqT K H s (irow a)) (hi : i < a.length) : Ev (tOp (rIx K) (tVar p) (tC (.int (i : Nat)))) σ H (.int (a.getD i 0)) := fun Q q =>
  ⟨_, h, ix_k (k := true) g (irow_get hi) q⟩
/-- this great at most -/
abbrev BB : Nat := 2 ^ 400
theorem bb_wd {x : Int} {n : Nat} (h : x.natAbs ≤ n) (hn : n < 2 ^ 3999 := by decide) : Wd x := Nat.lt_of_le_of_lt h (Nat.lt_trans hn (Nat.pow_lt_pow_right (by decide) (by decide)))
/-- x[i] * y[j] - x[j] * y[i] -/
theorem ev_two (h : σ[p]? = some (some (.ref s))) (g : SqT K H s (irow a)) (h' : σ[q]? = some (some (.ref t))) (g' : SqT K H t (irow b)) (ha : Rb BB a) (hb : Rb BB b) (hi : i < a.length) (hj : j < a.length) (hi' : i < b.length) (hj' : j < b.length) :
    Ev (tOp (rI0 fun i j => .int (i - j)) (tOp (rI CMulW fun i j => .int (i * j)) (tOp (rIx K) (tVar p) (tC (.int (i : Nat)))) (tOp (rIx K) (tVar q) (tC (.int (j : Nat)))))
      (tOp (rI CMulW fun i j => .int (i * j)) (tOp (rIx K) (tVar p) (tC (.int (j : Nat)))) (tOp (rIx K) (tVar q) (tC (.int (i : Nat)))))) σ H (.int (tw a b i j)) :=
  ev_sub (ev_mul (ev_ix h g hi) (ev_ix h' g' hj') (Wd.mul (bb_wd (ha.get _)) (bb_wd (hb.get _)))) (ev_mul (ev_ix h g hj) (ev_ix h' g' hi') (Wd.mul (bb_wd (ha.get _)) (bb_wd (hb.get _))))
theorem tw_abs (ha : Rb BB a) (hb : Rb BB b) : (tw a b i j).natAbs ≤ BB * BB + BB * BB := sub_abs (mul_abs (ha.get _) (hb.get _)) (mul_abs (ha.get _) (hb.get _))
end
theorem det3_rows {x y z : Int} {b c : List Int} : det3 [[x, y, z], b, c] = x * tw b c 1 2 - y * tw b c 0 2 + z * tw b c 0 1 := rfl
theorem det4_rows {a b c d : List Int} : det4 [a, b, c, d] = tw a b 0 1 * tw c d 2 3 - tw a b 0 2 * tw c d 1 3 + tw a b 0 3 * tw c d 1 2 + tw a b 1 2 * tw c d 0 3 - tw a b 1 3 * tw c d 0 2 + tw a b 2 3 * tw c d 0 1 := rfl
open PySem PySem.Spec PyProof.Rows L2 ZN in
abbrev tTwo (K : PySem.W.Frag) (p q : Nat) (i j : Int) : TE := tOp (rI0 fun i j => .int (i - j)) (tOp (rI CMulW fun i j => .int (i * j)) (tOp (rIx K) (tVar p) (tC (.int i))) (tOp (rIx K) (tVar q) (tC (.int j))))
      (tOp (rI CMulW fun i j => .int (i * j)) (tOp (rIx K) (tVar p) (tC (.int j))) (tOp (rIx K) (tVar q) (tC (.int i))))
open PySem PySem.Spec PyProof.Rows L2 ZN in
abbrev tMulT (ta tb : TE) : TE := tOp (rI CMulW fun i j => .int (i * j)) ta tb
open PySem PySem.Spec PyProof.Rows L2 ZN in
abbrev tAddT (ta tb : TE) : TE := tOp (rI0 fun i j => .int (i + j)) ta tb
open PySem PySem.Spec PyProof.Rows L2 ZN in
abbrev tSubT (ta tb : TE) : TE := tOp (rI0 fun i j => .int (i - j)) ta tb
section
open PySem PySem.Spec PyProof.Rows L2 ZN
variable {K : PySem.W.Frag} {σ : L2.St} {H : Hp} {a b c d : List Int} {t0 t1 t2 t3 : Addr}
theorem ev_det4 {t01 t23 t02 t13 t03 t12 s12 s03 s13 s02 s23 s01 : TE} (m : ∀ i j i' j', CMulW (tw a b i j) (tw c d i' j'))
    (h01 : Ev t01 σ H (.int (tw a b 0 1))) (h23 : Ev t23 σ H (.int (tw c d 2 3))) (h02 : Ev t02 σ H (.int (tw a b 0 2))) (h13 : Ev t13 σ H (.int (tw c d 1 3)))
    (h03 : Ev t03 σ H (.int (tw a b 0 3))) (h12 : Ev t12 σ H (.int (tw c d 1 2))) (k12 : Ev s12 σ H (.int (tw a b 1 2))) (k03 : Ev s03 σ H (.int (tw c d 0 3)))
    (k13 : Ev s13 σ H (.int (tw a b 1 3))) (k02 : Ev s02 σ H (.int (tw c d 0 2))) (k23 : Ev s23 σ H (.int (tw a b 2 3))) (k01 : Ev s01 σ H (.int (tw c d 0 1))) :
    Ev (tAddT (tSubT (tAddT (tAddT (tSubT (tMulT t01 t23) (tMulT t02 t13)) (tMulT t03 t12)) (tMulT s12 s03)) (tMulT s13 s02)) (tMulT s23 s01)) σ H (.int (det4 [a, b, c, d])) := by
  rw [det4_rows]
  exact ev_add (ev_sub (ev_add (ev_add (ev_sub (ev_mul h01 h23 (m _ _ _ _)) (ev_mul h02 h13 (m _ _ _ _))) (ev_mul h03 h12 (m _ _ _ _))) (ev_mul k12 k03 (m _ _ _ _))) (ev_mul k13 k02 (m _ _ _ _))) (ev_mul k23 k01 (m _ _ _ _))
theorem ret_of {te : TE} {D : Ends} {σ : L2.St} {H : Hp} (h : te σ H D.rt) : tRet te D σ H := h
theorem fin4 {K K' : PySem.W.Frag} (hK : K' = K) {σ : L2.St} {D : Ends} {a0 : Addr} (hσ : σ = [some (.ref a0), some (.ref t0), some (.ref t1), some (.ref t2), some (.ref t3)])
    (h0 : SqT K H t0 (irow a)) (h1 : SqT K H t1 (irow b)) (h2 : SqT K H t2 (irow c)) (h3 : SqT K H t3 (irow d)) (n0 : a.length = 4) (n1 : b.length = 4) (n2 : c.length = 4) (n3 : d.length = 4)
    (b0 : Rb BB a) (b1 : Rb BB b) (b2 : Rb BB c) (b3 : Rb BB d) (q : D.rt (.int (det4 [a, b, c, d])) H) :
    tRet (tAddT (tSubT (tAddT (tAddT (tSubT (tMulT (tTwo K' 1 2 0 1) (tTwo K' 3 4 2 3)) (tMulT (tTwo K' 1 2 0 2) (tTwo K' 3 4 1 3))) (tMulT (tTwo K' 1 2 0 3) (tTwo K' 3 4 1 2))) (tMulT (tTwo K' 1 2 1 2) (tTwo K' 3 4 0 3))) (tMulT (tTwo K' 1 2 1 3) (tTwo K' 3 4 0 2))) (tMulT (tTwo K' 1 2 2 3) (tTwo K' 3 4 0 1))) D σ H := by
  subst hK hσ
  have up : ∀ i j, i < 4 → j < 4 → Ev (tTwo K' 1 2 (i : Nat) (j : Nat)) [some (.ref a0), some (.ref t0), some (.ref t1), some (.ref t2), some (.ref t3)] H (.int (tw a b i j)) := fun i j hi hj => ev_two rfl h0 rfl h1 b0 b1 (by omega) (by omega) (by omega) (by omega)
  have lo : ∀ i j, i < 4 → j < 4 → Ev (tTwo K' 3 4 (i : Nat) (j : Nat)) [some (.ref a0), some (.ref t0), some (.ref t1), some (.ref t2), some (.ref t3)] H (.int (tw c d i j)) := fun i j hi hj => ev_two rfl h2 rfl h3 b2 b3 (by omega) (by omega) (by omega) (by omega)
  have m : ∀ i j i' j', CMulW (tw a b i j) (tw c d i' j') := fun i j i' j' => Wd.mul (bb_wd (tw_abs b0 b1)) (bb_wd (tw_abs b2 b3))
  have u01 : Ev (tTwo K' 1 2 0 1) [some (.ref a0), some (.ref t0), some (.ref t1), some (.ref t2), some (.ref t3)] H (.int (tw a b 0 1)) := up 0 1 (by decide) (by decide)
  have u02 : Ev (tTwo K' 1 2 0 2) [some (.ref a0), some (.ref t0), some (.ref t1), some (.ref t2), some (.ref t3)] H (.int (tw a b 0 2)) := up 0 2 (by decide) (by decide)
  have u03 : Ev (tTwo K' 1 2 0 3) [some (.ref a0), some (.ref t0), some (.ref t1), some (.ref t2), some (.ref t3)] H (.int (tw a b 0 3)) := up 0 3 (by decide) (by decide)
  have u12 : Ev (tTwo K' 1 2 1 2) [some (.ref a0), some (.ref t0), some (.ref t1), some (.ref t2), some (.ref t3)] H (.int (tw a b 1 2)) := up 1 2 (by decide) (by decide)
  have u13 : Ev (tTwo K' 1 2 1 3) [some (.ref a0), some (.ref t0), some (.ref t1), some (.ref t2), some (.ref t3)] H (.int (tw a b 1 3)) := up 1 3 (by decide) (by decide)
  have u23 : Ev (tTwo K' 1 2 2 3) [some (.ref a0), some (.ref t0), some (.ref t1), some (.ref t2), some (.ref t3)] H (.int (tw a b 2 3)) := up 2 3 (by decide) (by decide)
  have l01 : Ev (tTwo K' 3 4 0 1) [some (.ref a0), some (.ref t0), some (.ref t1), some (.ref t2), some (.ref t3)] H (.int (tw c d 0 1)) := lo 0 1 (by decide) (by decide)
  have l02 : Ev (tTwo K' 3 4 0 2) [some (.ref a0), some (.ref t0), some (.ref t1), some (.ref t2), some (.ref t3)] H (.int (tw c d 0 2)) := lo 0 2 (by decide) (by decide)
  have l03 : Ev (tTwo K' 3 4 0 3) [some (.ref a0), some (.ref t0), some (.ref t1), some (.ref t2), some (.ref t3)] H (.int (tw c d 0 3)) := lo 0 3 (by decide) (by decide)
  have l12 : Ev (tTwo K' 3 4 1 2) [some (.ref a0), some (.ref t0), some (.ref t1), some (.ref t2), some (.ref t3)] H (.int (tw c d 1 2)) := lo 1 2 (by decide) (by decide)
  have l13 : Ev (tTwo K' 3 4 1 3) [some (.ref a0), some (.ref t0), some (.ref t1), some (.ref t2), some (.ref t3)] H (.int (tw c d 1 3)) := lo 1 3 (by decide) (by decide)
  have l23 : Ev (tTwo K' 3 4 2 3) [some (.ref a0), some (.ref t0), some (.ref t1), some (.ref t2), some (.ref t3)] H (.int (tw c d 2 3)) := lo 2 3 (by decide) (by decide)
  have z := ev_det4 m u01 l23 u02 l13 u03 l12 u12 l03 u13 l02 u23 l01
  exact ret_of (z D.rt q)
end
end My

set_option maxHeartbeats 400000
namespace My
open PySem PySem.Spec PyProof.Rows L2 ZN
theorem pi_eq {X : Cx} {tg e : PySem.Expr} {wi wi' : TI} (h : PI X tg e wi') (q : wi' = wi) : PI X tg e wi := q ▸ h
section
variable {K : PySem.W.Frag} {σ : L2.St} {H : Hp} {Q : VK}
theorem irow_snoc (xs : List Int) (y : Int) : irow xs ++ [V.int y] = irow (xs ++ [y]) := by simp [irow]
/-- [e for row in table for e in row] -/
theorem comp_flat {i j : Nat} {wi wi1 : TI} {a : Addr} {ls : List V} {M : List (List Int)} (hs : SqT K H a ls) (hr : RowsK K H true ls M) (hz : M.flatten.length < 100000)
    (h0 : ∀ R : It → Hp → Prop, R (Itt K a) H → wi σ H R)
    (h1 : ∀ (t : Addr) (xs : List V) (H' : Hp) (R : It → Hp → Prop), SqT K H' t xs → R (Itt K t) H' → wi1 ((wipe σ [i, j]).set i (some (.ref t))) H' R)
    (hw : ∀ x, wipe ((wipe σ [i, j]).set i (some x)) [i, j] = wipe σ [i, j])
    (hw1 : ∀ x y, wipe ((wipe ((wipe σ [i, j]).set i (some x)) [j]).set j (some y)) [j] = wipe ((wipe σ [i, j]).set i (some x)) [j])
    (hv : ∀ x y, ((wipe ((wipe σ [i, j]).set i (some x)) [j]).set j (some y))[j]? = some (some y))
    (q : ∀ D H', Same H H' → H D = none → H' D = some (.lst (irow M.flatten)) → Q (.ref D) H') :
    tLc2 wi (gName i) tYes wi1 (gName j) tYes (tVar j) [i, j] [j] σ H Q := by
  have hlen : ls.length = M.length := hr.1
  refine h0 _ fun D hD => ?_
  refine ⟨fun n m H' => m = M.length - n ∧ n ≤ M.length ∧ Same H H' ∧ H' D = some (.lst (irow (M.take n).flatten)), ⟨_, rfl, Nat.zero_le _, same_new hD, upd_same⟩, ?_⟩
  rintro n m H1 ⟨rfl, hn, e1, hL⟩
  by_cases c : n < M.length
  · have hln : n < ls.length := by omega
    refine .inr ⟨walk_tup.goes n H1 hln (same_t e1 hs), fun H' => n + 1 ≤ M.length ∧ Same H H' ∧ H' D = some (.lst (irow (M.take (n + 1)).flatten)), fun H' ⟨a1, a2, a3⟩ => ⟨M.length - (n + 1), by omega, rfl, a1, a2, a3⟩, ?_⟩
    intro x H2 hy
    obtain ⟨rfl, hx⟩ := walk_tup.yields n H1 x H2 hln (same_t e1 hs) hy
    obtain ⟨t, ht, hst⟩ := hr.get c
    obtain rfl : x = .ref t := by rw [hx] at ht; exact Option.some.inj ht
    have hst1 := same_t e1 hst
    have etake : M.take (n + 1) = M.take n ++ [M.getD n []] := by rw [List.take_succ]; simp [c]
    have esplit : (M.take (n + 1)).flatten = (M.take n).flatten ++ M.getD n [] := by rw [etake]; simp
    have hsum : ((M.take (n + 1)).flatten).length ≤ M.flatten.length := by
      have e : M.flatten = (M.take (n + 1)).flatten ++ (M.drop (n + 1)).flatten := by rw [← List.flatten_append, List.take_append_drop]
      rw [e, List.length_append]; omega
    generalize hrow : M.getD n [] = r at hst1 esplit
    refine ⟨hw _, yes_of (h1 t (irow r) _ _ hst1 ?_)⟩
    refine ⟨fun jj k H' => k = r.length - jj ∧ jj ≤ r.length ∧ Same H H' ∧ H' D = some (.lst (irow ((M.take n).flatten ++ r.take jj))), ⟨_, rfl, Nat.zero_le _, e1, by simpa using hL⟩, ?_⟩
    rintro jj k H3 ⟨rfl, hj, e3, hL3⟩
    have hst3 := same_t e3 (hrow ▸ hst : SqT K H t (irow r))
    have hirow : (irow r).length = r.length := by simp [irow]
    by_cases cj : jj < r.length
    · refine .inr ⟨walk_tup.goes jj H3 (by omega) hst3, fun H' => jj + 1 ≤ r.length ∧ Same H H' ∧ H' D = some (.lst (irow ((M.take n).flatten ++ r.take (jj + 1)))), fun H' ⟨a1, a2, a3⟩ => ⟨r.length - (jj + 1), by omega, rfl, a1, a2, a3⟩, ?_⟩
      intro y H4 hy2
      obtain ⟨rfl, hy3⟩ := walk_tup.yields jj H3 y H4 (by omega) hst3 hy2
      obtain ⟨_, rfl⟩ := irow_get' hy3
      refine ⟨hw1 _ _, yes_of ⟨_, hv _ _, _, hL3, ?_, cj, ?_, ?_⟩⟩
      · refine Evl.sz_lt ?_
        have hsz : ((M.take n).flatten ++ r.take jj).length ≤ (M.take (n + 1)).flatten.length := by rw [esplit, List.length_append, List.length_append, List.length_take]; omega
        simp only [irow, List.length_map]
        omega
      · intro b o e
        rw [upd_ne (ne_of_none e hD)]
        exact e3 _ _ e
      · rw [upd_same, irow_snoc, List.append_assoc]
        have ej : r.take jj ++ [r.getD jj 0] = r.take (jj + 1) := by rw [List.take_succ]; simp [cj]
        rw [ej]
    · have ejj : r.take jj = r := List.take_of_length_le (by omega)
      refine .inl ⟨?_, c, e3, ?_⟩
      · have hs2 := walk_tup.stops H3 hst3
        rw [show (irow r).length = jj by omega] at hs2
        exact hs2
      · rw [hL3, ejj, esplit]
  · have en : n = M.length := by omega
    subst en
    refine .inl ⟨?_, q D H1 e1 hD (by rw [hL, List.take_length])⟩
    have hs2 := walk_tup.stops H1 (same_t e1 hs)
    rw [hlen] at hs2
    exact hs2
end
end My

set_option maxHeartbeats 400000
namespace My
open PySem PySem.Spec PyProof.Rows L2 ZN
def matD (M : List (List Int)) : PyData := .tuple (M.map rowD)
theorem row_can : ∀ r : List Int, PyData.canLayAll0 (r.map PyData.int) = true
  | [] => rfl
  | x :: r => by simp [PyData.canLayAll0, PyData.canLay0, row_can r]
theorem mat_can : ∀ M : List (List Int), PyData.canLayAll0 (M.map rowD) = true
  | [] => rfl
  | r :: M => by simp [PyData.canLayAll0, PyData.canLay0, rowD, row_can r, mat_can M]
theorem row_flat : ∀ r : List Int, flatDs (r.map PyData.int) = true
  | [] => rfl
  | x :: r => by simp [flatDs, flatD, row_flat r]
theorem mat_flat : ∀ M : List (List Int), flatDs (M.map rowD) = true
  | [] => rfl
  | r :: M => by simp [flatDs, flatD, rowD, row_flat r, mat_flat M]
theorem row_eqv : ∀ x y : List Int, PyData.eqvAll (x.map PyData.int) (y.map PyData.int) = decide (x = y)
  | [], [] => rfl
  | [], _ :: _ => rfl
  | _ :: _, [] => rfl
  | a :: x, b :: y => by
    simp only [List.map_cons, PyData.eqvAll, PyData.eqv, row_eqv x y]
    by_cases h : a = b <;> simp [h]
theorem mat_eqv : ∀ M N : List (List Int), PyData.eqvAll (M.map rowD) (N.map rowD) = decide (M = N)
  | [], [] => rfl
  | [], _ :: _ => rfl
  | _ :: _, [] => rfl
  | a :: x, b :: y => by
    have h1 : PyData.eqv (rowD a) (rowD b) = decide (a = b) := by
      unfold rowD PyData.eqv
      exact row_eqv a b
    have h2 := mat_eqv x y
    simp only [List.map_cons, PyData.eqvAll]
    rw [h1, h2]
    by_cases h : a = b <;> simp [h]
theorem eqvM (M N : List (List Int)) : PyData.eqv (matD M) (matD N) = decide (M = N) := by
  unfold matD PyData.eqv
  exact mat_eqv M N
theorem eqvR (x y : List Int) : PyData.eqv (rowD x) (rowD y) = decide (x = y) := by
  unfold rowD PyData.eqv
  exact row_eqv x y
theorem row_depth : ∀ r : List Int, PyData.depthAll (r.map PyData.int) = 0
  | [] => rfl
  | x :: r => by simp [PyData.depthAll, PyData.depth, row_depth r]
theorem mat_depth : ∀ M : List (List Int), PyData.depthAll (M.map rowD) ≤ 1
  | [] => by simp [PyData.depthAll]
  | r :: M => by
    have := mat_depth M
    simp only [List.map_cons, PyData.depthAll, PyData.depth, rowD, row_depth r] at this ⊢
    omega
theorem mat_shaped (M : List (List Int)) : SeqAt.shaped (matD M) = true := by
  have h := mat_depth M
  have c : PyData.canLay0 (matD M) = true := by
    unfold matD PyData.canLay0
    exact mat_can M
  have d : PyData.depth (matD M) ≤ 64 := by
    unfold matD PyData.depth
    omega
  unfold SeqAt.shaped
  rw [c, decide_eq_true d]
  rfl
theorem row_shaped (r : List Int) : SeqAt.shaped (rowD r) = true := by
  have c : PyData.canLay0 (rowD r) = true := by
    unfold rowD PyData.canLay0
    exact row_can r
  have d : PyData.depth (rowD r) ≤ 64 := by
    unfold rowD PyData.depth
    rw [row_depth r]
    omega
  unfold SeqAt.shaped
  rw [c, decide_eq_true d]
  rfl
section
variable {K : PySem.W.Frag} {H : Hp} {v : V} {M : List (List Int)} {r : List Int}
theorem jd_mt (h : Jd K H v (matD M)) : MtAt K H true v M := by
  cases h with
  | tup hs hj => exact ⟨_, _, rfl, hs, jd_rows hj⟩
theorem rows_jd : ∀ {M : List (List Int)} {ls : List V}, RowsAt K H ls (M.map irow) → JdAll K H ls (M.map rowD)
  | [], ls, h => by
    have := h.1
    cases ls with
    | nil => exact .nil
    | cons _ _ => simp at this
  | r :: M, ls, h => by
    cases ls with
    | nil => have := h.1; simp at this
    | cons x ls =>
      obtain ⟨t, h1, h2⟩ := h.2 0 (irow r) rfl
      obtain rfl : x = .ref t := Option.some.inj h1
      refine .cons (row_jd h2) (rows_jd ⟨by have := h.1; simpa using this, fun j r' e => h.2 (j + 1) r' (by simpa using e)⟩)
theorem mt_jd (h : MtAt K H true v M) : Jd K H v (matD M) := by
  obtain ⟨a, ls, rfl, hs, hr⟩ := h
  exact .tup hs (rows_jd hr)
theorem mt_dp (h : MtAt K H true v M) : Dp K H v (matD M) := Jd.dp _ _ (by unfold matD flatD; exact mat_flat M) (mt_jd h)
theorem rw_jd (h : RwAt K H true v r) : Jd K H v (rowD r) := by
  obtain ⟨a, rfl, h⟩ := h
  exact row_jd h
theorem rw_dp (h : RwAt K H true v r) : Dp K H v (rowD r) := Jd.dp _ _ (by unfold rowD flatD; exact row_flat r) (rw_jd h)
/-- == and != of matrices -/
theorem eq_mat {u : V} {N : List (List Int)} {Q : VK} (h : MtAt K H true v M) (g : MtAt K H true u N) (q : Q (.bl (decide (M = N))) H) : rEqD K v u H Q := ⟨_, _, mt_dp h, mt_dp g, mat_shaped M, mat_shaped N, by rw [eqvM]; exact q⟩
theorem ne_mat {u : V} {N : List (List Int)} {Q : VK} (h : MtAt K H true v M) (g : MtAt K H true u N) (q : Q (.bl (!decide (M = N))) H) : rNeD K v u H Q := ⟨_, _, mt_dp h, mt_dp g, mat_shaped M, mat_shaped N, by rw [eqvM]; exact q⟩
end
end My

set_option maxHeartbeats 400000
namespace My
open PySem PySem.Spec PyProof.Rows L2 ZN
def rMaxT (K : PySem.W.Frag) : List V → Hp → VK → Prop := fun vs H Q => ∃ (a : Addr) (x : Int) (xs : List Int), vs = [V.ref a] ∧ SqT K H a (irow (x :: xs)) ∧ ∀ m, Q (.int m) H
theorem holds_int {h : Heap} {v : Value} {m : Int} (r : PySem.W.Holds h v m) : ∃ t, v = .int m t := by
  obtain ⟨as, r⟩ := r
  have r' : Reads h v (.int m) as := r
  cases r' with
  | int i t => exact ⟨t, rfl⟩
theorem hold_row {h : Heap} : ∀ {xs : List Int} {us : List Value}, Vals (irow xs) us → PySem.W.HoldAll h us xs
  | [], us, r => by cases r; exact .nil
  | x :: xs, us, r => by
    cases r with
    | cons a b =>
      obtain ⟨t, rfl⟩ := a
      exact .cons ⟨_, Reads.int x t⟩ (hold_row b)
theorem cr_maxT {X : Cx} (hc : X.calm = true) (hu : X.A.units + 64 < cLine) : CallR X (.builtin "max") (rMaxT X.K) := by
  intro pins s σ H vs us Q I r h
  obtain ⟨a, x, xs, rfl, hs, q⟩ := h
  obtain ⟨its, rv, ht, _⟩ := I.tuple hs
  rw [Vals.ref1 r]
  refine PySem.W.max_tuple_datum (x := x) (xs := xs) (I.ok.hd hc) ht (hold_row rv) (by show _ + 1 + 0 < _; omega) fun i v h' tk hi hv hk => ?_
  obtain ⟨t, rfl⟩ := holds_int hv
  exact ⟨.int _, H, I.kept hk, ⟨_, rfl⟩, q _⟩
theorem cr_minT {X : Cx} (hc : X.calm = true) (hu : X.A.units + 64 < cLine) : CallR X (.builtin "min") (rMaxT X.K) := by
  intro pins s σ H vs us Q I r h
  obtain ⟨a, x, xs, rfl, hs, q⟩ := h
  obtain ⟨its, rv, ht, _⟩ := I.tuple hs
  rw [Vals.ref1 r]
  refine PySem.W.min_tuple_datum (x := x) (xs := xs) (I.ok.hd hc) ht (hold_row rv) (by show _ + 1 + 0 < _; omega) fun i v h' tk hi hv hk => ?_
  obtain ⟨t, rfl⟩ := holds_int hv
  exact ⟨.int _, H, I.kept hk, ⟨_, rfl⟩, q _⟩
end My

set_option maxHeartbeats 1000000
namespace My
open PySem PySem.Spec PyProof.Rows L2
theorem tuple_mul1 (l : Addr) (its : Array Value) (m : Nat) (dc : Option Addr) (sl : Array (Option Value)) (u : Tok) :
    Meets (Builtin.«tuple.__mul__» ⟨[.ref l, .int 1 u], []⟩) (fun _ R s =>
      s.heap.get? l = some { cls := .type "tuple", dict := dc, data := .seq its m, slots := sl } ∧
      R (.ok (.ret (Value.ref l))) { s with toks := s.toks }) :=
  .of_wp fun prog w A R s h => by
    obtain ⟨hp, g, d, tk, os⟩ := s
    obtain ⟨hl, h⟩ := h
    have f1 := AutoSeq1.idx_int
    wp_walk using wpAny_loadPart' hl
    exact ⟨_, rfl, h⟩
/-- a tuple, one time -/
def rRep1 (K : PySem.W.Frag) : R2 := fun x y H Q => ∃ l xs, x = .ref l ∧ y = .int 1 ∧ SqT K H l xs ∧ Q (.ref l) H
def rRepC (K : PySem.W.Frag) : R2 := fun x y H Q => rRepB K x y H Q ∨ rRep1 K x y H Q
section
variable {X : Cx}
theorem op_rep1 : OpR X (binaryOp .Mult) (rRep1 X.K) := by
  intro pins s σ H x y v u Q I rx ry h
  obtain ⟨l, xs, rfl, rfl, hT, q⟩ := h
  cases rx
  obtain ⟨t, rfl⟩ := ry
  obtain ⟨its, r, ⟨⟨cls, dc, data, sl⟩, ho, hc, n, hd⟩, hs⟩ := I.tuple hT
  simp only at hc hd
  subst hc hd
  refine wpAny_binaryOp_repeat_ref (T := "tuple") (U := "int") (by decide) ⟨_, ho, rfl⟩ (fun s' => typeIs_int s' 1 t)
    noFill_tuple_mul F.fills_int_mul F.slot_int_rmul repeat_tuple F.slot_int_index.lookup ?_
  refine call_meets F.slot_int_rmul (typeIs_int s 1 t) F.entry_int_rmul (F.args_int_rmul_2 _ _) (int_rmul_tuple 1 t l its.toArray n dc sl) ⟨ho, rfl, ⟨_, ho, rfl⟩, ?_⟩
  refine call_meets F.slot_tuple_mul ⟨_, ho, rfl⟩ F.entry_tuple_mul (F.args_tuple_mul_2 _ _) (tuple_mul1 l its.toArray n dc sl t) ⟨ho, ?_⟩
  exact ⟨.ref l, H, I, rfl, q⟩
theorem op_repC : OpR X (binaryOp .Mult) (rRepC X.K) := by
  intro pins s σ H x y v u Q I rx ry h
  rcases h with h | h
  · exact op_repB pins s σ H x y v u Q I rx ry h
  · exact op_rep1 pins s σ H x y v u Q I rx ry h
end
section
variable {K : PySem.W.Frag} {H : Hp} {l : Addr} {Q : VK}
/-- (x,) * k, k from 0 to 1000 -/
theorem rep_any {x : V} {k : Nat} (hk : k ≤ 1000) (h : SqT K H l [x]) (q : ∀ p H', Same H H' → SqT K H' p (List.replicate k x) → Q (.ref p) H') : rRepC K (.ref l) (.int (k : Nat)) H Q := by
  match k, hk, q with
  | 0, _, q => exact .inl (.inr ⟨l, [x], rfl, rfl, h, by simp, fun p hp => q p _ (same_new hp) (.inl (.inl upd_same))⟩)
  | 1, _, q => exact .inr ⟨l, [x], rfl, rfl, h, q l H (Same.refl _) h⟩
  | k + 2, hk, q =>
    refine .inl (.inl ⟨l, _, [x], rfl, rfl, h, by simp, by omega, by omega, by simp, fun p hp => q p _ (same_new hp) (.inl (.inl ?_))⟩)
    have e : ((((k + 2 : Nat) : Int)).toNat) = k + 2 := rfl
    rw [e]
    have z : ∀ m : Nat, (List.replicate m [x]).flatten = List.replicate m x := fun m => by
      induction m with
      | zero => rfl
      | succ m ih => rw [List.replicate_succ, List.flatten_cons, ih, List.replicate_succ]; rfl
    rw [z]
    exact upd_same
end
end My

set_option maxHeartbeats 400000
namespace My
open PySem PySem.Spec PyProof.Rows L2 ZN
section
variable {K : PySem.W.Frag} {σ : L2.St} {H : Hp} {vs : List Nat} {Q : VK} {i j : Nat} {wi : TI} {k1 k2 : Bool} {a b : Addr} {xs ys : List Int}
/-- sum([x * y for x, y in zip(..)]) -/
theorem sum_zip (h0 : ∀ R : It → Hp → Prop, R (Itz2 K k1 k2 a b) H → wi σ H R) (ha : SqK k1 K H a (irow xs)) (hb : SqK k2 K H b (irow ys)) (wx : ∀ x ∈ xs, Wd x) (wy : ∀ y ∈ ys, Wd y) (hz : xs.length < 100000)
    (hw : ∀ x y, wipe (((wipe σ vs).set i (some x)).set j (some y)) vs = wipe σ vs) (hi : ∀ x y, (((wipe σ vs).set i (some x)).set j (some y))[i]? = some (some x)) (hj : ∀ x y, (((wipe σ vs).set i (some x)).set j (some y))[j]? = some (some y))
    (q : ∀ H', Same H H' → Q (.int (dotL xs ys)) H') :
    tCB (rSum K) (tCons (tLc wi (gTup K 2 (gCons (gName i) (gCons (gName j) gNil))) tYes (tOp (rI CMulW fun i j => .int (i * j)) (tVar i) (tVar j)) vs) tNil) σ H Q := by
  dsimp only [tCB, tCons, tNil]
  refine comp_pair (K := K) (walk_zip2 (k1 := k1) (k2 := k2) (a := a) (b := b) (xs := irow xs) (ys := irow ys) rfl) (fun k => .int (xs.getD k 0 * ys.getD k 0)) (by simp only [irow, List.length_map]; omega)
    (fun H' e => ⟨same_k e ha, same_k e hb⟩) h0 hw ?_ ?_
  · intro k x y D acc H1 A1 hk e1 hD hL hx hy hA
    obtain ⟨hk1, rfl⟩ := irow_get' hx
    obtain ⟨hk2, rfl⟩ := irow_get' hy
    exact ⟨_, hi _ _, _, hj _ _, _, _, rfl, rfl, Wd.mul (wx _ (mem_getD hk1)) (wy _ (mem_getD hk2)), hA _ _ (Same.refl _) fun u => .int _⟩
  · intro D zs H' e hD hL hjd
    simp only [irow, List.length_map] at hjd
    rw [zip_data] at hjd
    rw [jd_ints_inv _ _ hjd] at hL
    exact ⟨D, _, rfl, .inl (.inl hL), q H' e⟩
end
section
open PySem PySem.Spec PyProof.Rows L2 ZN
theorem t_upd {K : PySem.W.Frag} {H : Hp} {D t : Addr} {acc xs : List V} {u : HO} (hD : H D = some (.lst acc)) (h : SqT K H t xs) : SqT K (upd H D u) t xs := by
  rcases h with (h | ⟨o, h⟩) | h
  · exact .inl (.inl (by rw [upd_ne (fun e => by subst e; rw [hD] at h; cases h)]; exact h))
  · exact .inl (.inr ⟨o, by rw [upd_ne (fun e => by subst e; rw [hD] at h; cases h)]; exact h⟩)
  · exact .inr h
end
theorem pts_eq {X : L2.Cx} {es : List PySem.Expr} {tt tt' : L2.TT} (h : L2.PTs X es tt') (q : tt' = tt) : L2.PTs X es tt := q ▸ h
theorem dotL_snoc {xs ys : List Int} {x y : Int} (h : xs.length = ys.length) : dotL (xs ++ [x]) (ys ++ [y]) = dotL xs ys + x * y := by
  rw [dot_app h]
  simp [dotL]
end My

set_option maxHeartbeats 400000
namespace My
open PySem PySem.Spec PyProof.Rows L2 ZN
section
variable {K : PySem.W.Frag} {σ : L2.St} {H : Hp} {te : TE} {vs : List Nat} {Q : VK} {J : It} {n i : Nat} {G : Hp → Prop} {wi : TI} {b : Addr} {Y : Nat → Hp → V → Hp → Prop}
theorem But.upd {D : Addr} {u : HO} {H1 H2 : Hp} (e : But b H1 H2) : But b (upd H1 D u) (upd H2 D u) := fun a o h hn => by
  by_cases c : a = D
  · subst c; rw [upd_same] at h ⊢; exact h
  · rw [upd_ne c] at h ⊢; exact e a o h hn
/-- a comprehension whose elements draw from the bag -/
theorem comp_bj (w : Walk J n G Y) (Px : Nat → V → Prop) (hY : ∀ k H1 x H2, Y k H1 x H2 → H2 = H1 ∧ Px k x) (bag : Bag H b) (Ok : Nat → Hp → V → Prop) (mono : ∀ k H1 H2 y, But b H1 H2 → Ok k H1 y → Ok k H2 y) (hz : n < 100000)
    (hG : ∀ H', But b H H' → Bag H' b → G H') (h0 : ∀ R : It → Hp → Prop, R J H → wi σ H R) (hw : ∀ x, wipe ((wipe σ vs).set i (some x)) vs = wipe σ vs)
    (hel : ∀ (k : Nat) (x : V) (D : Addr) (acc : List V) (H1 : Hp) (Q' : VK), k < n → Px k x → But b H H1 → Bag H1 b → H D = none → H1 D = some (.lst acc) →
      (∀ y H2, But b H1 H2 → Bag H2 b → (∀ u, Ok k (upd H2 D u) y) → Q' y H2) → te ((wipe σ vs).set i (some x)) H1 Q')
    (q : ∀ D ys H', But b H H' → Bag H' b → D ≠ b → H D = none → ys.length = n → (∀ k y, ys[k]? = some y → Ok k H' y) → H' D = some (.lst ys) → Q (.ref D) H') :
    tLc wi (gName i) tYes te vs σ H Q := by
  refine h0 _ fun D hD => ?_
  have hDb : D ≠ b := bag.ne hD
  refine lc_it w (fun k H' => But b H H' ∧ Bag H' b ∧ ∃ ys : List V, ys.length = k ∧ (∀ m y, ys[m]? = some y → ∀ u, Ok m (upd H' D u) y) ∧ H' D = some (.lst ys))
    ⟨But.of (same_new hD), bag.upd hD, [], rfl, fun m y h => by simp at h, upd_same⟩ (fun k H' _ h => hG H' h.1 h.2.1) ?_ ?_
  · rintro k x H1 H2 hk ⟨e1, b1, ys, hl, hok, hL⟩ hy
    obtain ⟨rfl, hp⟩ := hY k H1 x H2 hy
    refine ⟨hw x, yes_of (hel k x D ys _ _ hk hp e1 b1 hD hL fun y H3 e3 b3 ok3 => ?_)⟩
    have hL3 := e3 D _ hL hDb
    refine ⟨ys, hL3, Evl.sz_lt (by omega), ?_, ?_, ys ++ [y], by simp [hl], ?_, upd_same⟩
    · intro a o h hn
      rw [upd_ne (ne_of_none h hD)]
      exact e3 a o (e1 a o h hn) hn
    · obtain ⟨x1, y1, z1, hb, r⟩ := b3
      exact ⟨x1, y1, z1, by rw [upd_ne (Ne.symm hDb)]; exact hb, r⟩
    · intro m y' hm u
      have eu : ∀ v, upd (upd H3 D v) D u = upd H3 D u := fun v => by
        funext a
        by_cases c : a = D
        · subst c; rw [upd_same, upd_same]
        · rw [upd_ne c, upd_ne c, upd_ne c]
      rw [eu]
      rcases Nat.lt_or_ge m ys.length with c | c
      · rw [List.getElem?_append_left c] at hm
        exact mono m _ _ y' (But.upd e3) (hok m y' hm u)
      · rw [List.getElem?_append_right c] at hm
        have hmk : m = k := by
          have := (List.getElem?_eq_some_iff.mp hm).1
          simp at this; omega
        subst hmk
        rw [hl, Nat.sub_self] at hm
        simp at hm
        subst hm
        exact ok3 u
  · rintro H1 ⟨e1, b1, ys, hl, hok, hL⟩
    refine q D ys H1 e1 b1 hDb hD hl (fun k y hk => ?_) hL
    have := hok k y hk (.lst ys)
    have eu : upd H1 D (.lst ys) = H1 := by
      funext a
      by_cases c : a = D
      · subst c; rw [upd_same, hL]
      · rw [upd_ne c]
    rw [eu] at this
    exact this
/-- a list of integers at y, not b, each of them so great at most -/
def LsAt (b : Addr) (n s : Nat) (H : Hp) (y : V) : Prop := ∃ t r, y = .ref t ∧ t ≠ b ∧ H t = some (.lst (irow r)) ∧ r.length = n ∧ Rb s r
theorem LsAt.mono {s : Nat} {H1 H2 : Hp} {y : V} (e : But b H1 H2) (h : LsAt b n s H1 y) : LsAt b n s H2 y :=
  let ⟨t, r, h1, h2, h3, h4, h5⟩ := h; ⟨t, r, h1, h2, e t _ h3 h2, h4, h5⟩
/-- lists of integers: a matrix of lists -/
theorem ls_all {s : Nat} {H : Hp} {ys : List V} (h : ∀ (k : Nat) y, ys[k]? = some y → LsAt b n s H y) : ∃ N : List (List Int), ys.length = N.length ∧ (∀ r ∈ N, r.length = n ∧ Rb s r) ∧
    ∀ (j : Nat) r, N[j]? = some r → ∃ t, ys[j]? = some (.ref t) ∧ t ≠ b ∧ H t = some (.lst (irow r)) := by
  induction ys with
  | nil => exact ⟨[], rfl, fun r hr => absurd hr List.not_mem_nil, fun j r hj => by simp at hj⟩
  | cons y ys ih =>
    obtain ⟨N, h1, h2, h3⟩ := ih fun k y' hk => h (k + 1) y' (by simpa using hk)
    obtain ⟨t, r, rfl, a1, a2, a3, a4⟩ := h 0 y rfl
    refine ⟨r :: N, by simp [h1], fun r' hr => ?_, fun j r' hj => ?_⟩
    · rcases List.mem_cons.mp hr with rfl | hr
      · exact ⟨a3, a4⟩
      · exact h2 r' hr
    · cases j with
      | zero => simp at hj; subst hj; exact ⟨t, rfl, a1, a2⟩
      | succ j => simpa using h3 j r' (by simpa using hj)
end
end My

set_option maxHeartbeats 400000
namespace My
theorem perm_map_inv {α β : Type} (f : α → β) : ∀ (ps : List α) (l : List β), l.Perm (ps.map f) → ∃ ps' : List α, ps'.Perm ps ∧ ps'.map f = l
  | [], l, h => by
    have : l = [] := List.Perm.eq_nil (by simpa using h)
    subst this
    exact ⟨[], List.Perm.refl _, rfl⟩
  | p :: ps, l, h => by
    have hm : f p ∈ l := h.symm.subset (by simp)
    obtain ⟨l1, l2, rfl⟩ := List.append_of_mem hm
    have h2 : (f p :: (l1 ++ l2)).Perm (f p :: ps.map f) := (List.perm_middle.symm).trans (by simpa using h)
    obtain ⟨qs, hq, he⟩ := perm_map_inv f ps (l1 ++ l2) (List.Perm.cons_inv h2)
    obtain ⟨a, b, rfl, ha, hb⟩ := List.map_eq_append_iff.mp he
    refine ⟨a ++ p :: b, List.perm_middle.trans (hq.cons p), by simp [ha, hb]⟩
open PySem PySem.Spec PyProof.Rows L2 ZN
/-- a list of lists of integers, none of them the bag -/
def LL (b : Addr) (H : Hp) (D : Addr) (ys : List V) (N : List (List Int)) : Prop :=
  D ≠ b ∧ H D = some (.lst ys) ∧ ys.length = N.length ∧ ∀ (j : Nat) r, N[j]? = some r → ∃ t, ys[j]? = some (.ref t) ∧ t ≠ b ∧ t ≠ D ∧ H t = some (.lst (irow r))
section
variable {K : PySem.W.Frag} {b D : Addr} {H H' : Hp} {ys : List V} {N : List (List Int)}
theorem LL.but (e : But b H H') (h : LL b H D ys N) : LL b H' D ys N :=
  ⟨h.1, e D _ h.2.1 h.1, h.2.2.1, fun j r hj => let ⟨t, h1, h2, h3, h4⟩ := h.2.2.2 j r hj; ⟨t, h1, h2, h3, e t _ h4 h2⟩⟩
theorem LL.get (h : LL b H D ys N) {j : Nat} (hj : j < N.length) : ∃ t, ys[j]? = some (.ref t) ∧ t ≠ b ∧ t ≠ D ∧ H t = some (.lst (irow (N.getD j []))) := by
  have e : N.getD j [] = N[j] := by simp [hj]
  rw [e]
  exact h.2.2.2 j _ (List.getElem?_eq_getElem hj)
/-- one row is put in -/
theorem LL.put (h : LL b H D ys N) {t : Addr} {r : List Int} (htb : t ≠ b) (htD : t ≠ D) (ht : H t = some (.lst (irow r))) {i : Nat} : LL b (upd H D (.lst (ys.set i (.ref t)))) D (ys.set i (.ref t)) (N.set i r) := by
  obtain ⟨h1, h2, h3, h4⟩ := h
  refine ⟨h1, upd_same, by simpa using h3, fun j r' hj => ?_⟩
  rw [List.getElem?_set] at hj
  split at hj
  · rename_i c
    subst c
    split at hj
    · rename_i c2
      cases hj
      refine ⟨t, ?_, htb, htD, by rw [upd_ne htD]; exact ht⟩
      rw [List.getElem?_set_self (by omega)]
    · cases hj
  · rename_i c
    obtain ⟨t', k1, k2, k3, k4⟩ := h4 j r' hj
    refine ⟨t', ?_, k2, k3, by rw [upd_ne k3]; exact k4⟩
    rw [List.getElem?_set_ne c]; exact k1
/-- in another order -/
theorem LL.perm (h : LL b H D ys N) {zs : List V} (p : zs.Perm ys) : ∃ M : List (List Int), M.Perm N ∧ zs.length = M.length ∧ ∀ (j : Nat) r, M[j]? = some r → ∃ t, zs[j]? = some (.ref t) ∧ H t = some (.lst (irow r)) := by
  have e1 : (List.zip ys N).map Prod.fst = ys := List.map_fst_zip (by rw [h.2.2.1]; exact Nat.le_refl _)
  have e2 : (List.zip ys N).map Prod.snd = N := List.map_snd_zip (by rw [h.2.2.1]; exact Nat.le_refl _)
  obtain ⟨ps, hp, rfl⟩ := perm_map_inv Prod.fst (List.zip ys N) zs (e1.symm ▸ p)
  refine ⟨ps.map Prod.snd, by have := hp.map Prod.snd; rwa [e2] at this, by simp, fun j r hj => ?_⟩
  rw [List.getElem?_map, Option.map_eq_some_iff] at hj
  obtain ⟨x, hx, rfl⟩ := hj
  have hm : x ∈ List.zip ys N := hp.subset (List.mem_of_getElem? hx)
  obtain ⟨k, hk, e⟩ := List.getElem_of_mem hm
  have hk1 : k < ys.length := by simp at hk; omega
  have hk2 : k < N.length := by simp at hk; omega
  obtain ⟨t, a1, a2, a3, a4⟩ := h.2.2.2 k N[k] (List.getElem?_eq_getElem hk2)
  have ex : x = (ys[k], N[k]) := by rw [← e]; simp
  refine ⟨t, ?_, by rw [ex]; exact a4⟩
  rw [List.getElem?_map, hx, ex]
  rw [List.getElem?_eq_getElem hk1] at a1
  exact a1
end
/-- the rows of a matrix, made of one function -/
def LmAt (b : Addr) (f : Nat → List Int) (k : Nat) (H : Hp) (y : V) : Prop := ∃ t, y = .ref t ∧ t ≠ b ∧ H t = some (.lst (irow (f k)))
theorem LmAt.mono {b : Addr} {f : Nat → List Int} {k : Nat} {H1 H2 : Hp} {y : V} (e : But b H1 H2) (h : LmAt b f k H1 y) : LmAt b f k H2 y :=
  let ⟨t, h1, h2, h3⟩ := h; ⟨t, h1, h2, e t _ h3 h2⟩
theorem lm_all {b D : Addr} {f : Nat → List Int} {n : Nat} {H : Hp} {ys : List V} (hD : D ≠ b) (hL : H D = some (.lst ys)) (hl : ys.length = n) (h : ∀ (k : Nat) y, ys[k]? = some y → LmAt b f k H y) (hne : ∀ (k : Nat) (t : Addr), ys[k]? = some (V.ref t) → t ≠ D) : LL b H D ys ((List.range n).map f) := by
  refine ⟨hD, hL, by simp [hl], fun j r hj => ?_⟩
  rw [List.getElem?_map, Option.map_eq_some_iff] at hj
  obtain ⟨x, hx, rfl⟩ := hj
  have hjn : j < n := by
    have := (List.getElem?_eq_some_iff.mp hx).1
    simpa using this
  obtain rfl : j = x := by simpa [hjn] using hx
  have hy : ys[j]? = some ys[j] := List.getElem?_eq_getElem (by omega)
  obtain ⟨t, h1, h2, h3⟩ := h j _ hy
  rw [h1] at hy
  exact ⟨t, hy, h2, hne j t hy, h3⟩
end My

set_option maxHeartbeats 400000
namespace My
open PySem PySem.Spec PyProof.Rows L2 ZN
/-! ### the law's own elimination -/
def someAt (L : List (List Int)) (n c : Nat) : List Nat := ((List.range (n - c)).filter fun k => en L (c + k) c != 0).map (c + ·)
def swapR (L : List (List Int)) (i j : Nat) : List (List Int) := (L.set i (L.getD j [])).set j (L.getD i [])
def elimR (L : List (List Int)) (c : Nat) (s : Int) (j : Nat) : List (List Int) := (List.range L.length).map fun p => if c < p ∧ p < j then clr (L.getD c []) (L.getD p []) c s else L.getD p []
def lawGo : Nat → Nat → List (List Int) → Int → Int → Int
  | 0, _, _, g, s => g * s
  | k + 1, c, L, g, s => match someAt L L.length c with
    | [] => 0
    | p :: _ =>
      let L1 := if p = c then L else swapR L c p
      let g1 := if p = c then g else 0 - g
      lawGo k (c + 1) (elimR L1 c s L1.length) g1 (en L1 c c)
def lawDet (M : List (List Int)) : Int := lawGo M.length 0 M 1 1
/-- a list of lists of integers -/
def L0 (H : Hp) (D : Addr) (ys : List V) (N : List (List Int)) : Prop :=
  H D = some (.lst ys) ∧ ys.length = N.length ∧ ∀ (j : Nat) r, N[j]? = some r → ∃ t, ys[j]? = some (.ref t) ∧ t ≠ D ∧ H t = some (.lst (irow r))
section
variable {K : PySem.W.Frag} {D : Addr} {H H' : Hp} {ys : List V} {N : List (List Int)}
theorem L0.mono (e : Same H H') (h : L0 H D ys N) : L0 H' D ys N :=
  ⟨e D _ h.1, h.2.1, fun j r hj => let ⟨t, h1, h2, h3⟩ := h.2.2 j r hj; ⟨t, h1, h2, e t _ h3⟩⟩
theorem L0.get (h : L0 H D ys N) {j : Nat} (hj : j < N.length) : ∃ t, ys[j]? = some (.ref t) ∧ t ≠ D ∧ H t = some (.lst (irow (N.getD j []))) := by
  have e : N.getD j [] = N[j] := by simp [hj]
  rw [e]
  exact h.2.2 j _ (List.getElem?_eq_getElem hj)
theorem L0.put (h : L0 H D ys N) {t : Addr} {r : List Int} (htD : t ≠ D) (ht : H t = some (.lst (irow r))) {i : Nat} : L0 (upd H D (.lst (ys.set i (.ref t)))) D (ys.set i (.ref t)) (N.set i r) := by
  obtain ⟨h2, h3, h4⟩ := h
  refine ⟨upd_same, by simpa using h3, fun j r' hj => ?_⟩
  rw [List.getElem?_set] at hj
  split at hj
  · rename_i c
    subst c
    split at hj
    · cases hj
      exact ⟨t, by rw [List.getElem?_set_self (by omega)], htD, by rw [upd_ne htD]; exact ht⟩
    · cases hj
  · rename_i c
    obtain ⟨t', k1, k3, k4⟩ := h4 j r' hj
    exact ⟨t', by rw [List.getElem?_set_ne c]; exact k1, k3, by rw [upd_ne k3]; exact k4⟩
end
theorem someAt_mem {L : List (List Int)} {n c p : Nat} {r : List Nat} (h : someAt L n c = p :: r) : c ≤ p ∧ p < n ∧ en L p c ≠ 0 := by
  have hm : p ∈ someAt L n c := by rw [h]; simp
  simp only [someAt, List.mem_map, List.mem_filter, List.mem_range] at hm
  obtain ⟨k, ⟨hk, hz⟩, rfl⟩ := hm
  exact ⟨by omega, by omega, by simpa using hz⟩
theorem swapR_len {L : List (List Int)} {i j : Nat} : (swapR L i j).length = L.length := by simp [swapR]
theorem elimR_len {L : List (List Int)} {c j : Nat} {s : Int} : (elimR L c s j).length = L.length := by simp [elimR]
theorem elimR_get {L : List (List Int)} {c j p : Nat} {s : Int} (hp : p < L.length) : (elimR L c s j).getD p [] = if c < p ∧ p < j then clr (L.getD c []) (L.getD p []) c s else L.getD p [] := by
  unfold elimR
  rw [getD_map' _ _ _ 0 _ (by simpa using hp), getD_range _ _ hp]
theorem elimR_start {L : List (List Int)} {c : Nat} {s : Int} : elimR L c s (c + 1) = L := by
  apply List.ext_getElem
  · simp [elimR]
  · intro k h1 h2
    have := elimR_get (L := L) (c := c) (j := c + 1) (p := k) (s := s) h2
    rw [if_neg (by omega)] at this
    simpa [h1, h2] using this
theorem elimR_next {L : List (List Int)} {c j : Nat} {s : Int} (hc : c < j) (hj : j < L.length) : (elimR L c s j).set j (clr (L.getD c []) (L.getD j []) c s) = elimR L c s (j + 1) := by
  apply List.ext_getElem
  · simp [elimR]
  · intro k h1 h2
    have hk : k < L.length := by simpa [elimR] using h2
    have g1 := elimR_get (L := L) (c := c) (j := j + 1) (p := k) (s := s) hk
    have g0 := elimR_get (L := L) (c := c) (j := j) (p := k) (s := s) hk
    have h3 : k < (elimR L c s j).length := by simpa [elimR] using hk
    have e1 : (elimR L c s (j + 1)).getD k [] = (elimR L c s (j + 1))[k] := by simp [h2]
    have e0 : (elimR L c s j).getD k [] = (elimR L c s j)[k] := by simp [h3]
    rw [e1] at g1
    rw [e0] at g0
    rw [List.getElem_set, g1]
    by_cases ck : j = k
    · subst ck
      rw [if_pos rfl, if_pos ⟨hc, by omega⟩]
    · rw [if_neg ck, g0]
      by_cases cc : c < k ∧ k < j
      · rw [if_pos cc, if_pos ⟨cc.1, by omega⟩]
      · rw [if_neg cc, if_neg (by omega)]
theorem fdiv_abs {x s : Int} {b : Nat} (hx : x.natAbs ≤ b) (hs : s ≠ 0) : (x.fdiv s).natAbs ≤ b := by
  refine Nat.le_trans ?_ hx
  have e : s * x.fdiv s + x.fmod s = x := Int.mul_fdiv_add_fmod x s
  generalize x.fdiv s = q at *
  rcases Int.lt_or_gt_of_ne hs with h | h
  · have z := Int.neg_fmod_neg x s
    have z1 := Int.fmod_nonneg_of_pos (-x) (b := -s) (by omega)
    have z2 := Int.fmod_lt_of_pos (-x) (b := -s) (by omega)
    have r1 : x.fmod s ≤ 0 := by omega
    have r2 : s < x.fmod s := by omega
    generalize x.fmod s = r at *
    rcases Int.lt_or_le q 0 with c | c
    · have m : 0 ≤ (-1 - s) * (-1 - q) := Int.mul_nonneg (by omega) (by omega)
      have m2 : (-1 - s) * (-1 - q) = 1 + q + s + s * q := by grind
      omega
    · have m : 0 ≤ (-1 - s) * q := Int.mul_nonneg (by omega) c
      have m2 : (-1 - s) * q = -q - s * q := by grind
      omega
  · have r1 : 0 ≤ x.fmod s := Int.fmod_nonneg_of_pos x h
    have r2 : x.fmod s < s := Int.fmod_lt_of_pos x h
    generalize x.fmod s = r at *
    rcases Int.lt_or_le q 0 with c | c
    · have m : 0 ≤ (s - 1) * (-1 - q) := Int.mul_nonneg (by omega) (by omega)
      have m2 : (s - 1) * (-1 - q) = 1 + q - s - s * q := by grind
      omega
    · have m : 0 ≤ (s - 1) * q := Int.mul_nonneg (by omega) c
      have m2 : (s - 1) * q = s * q - q := by grind
      omega
/-- bounds, step by step -/
def bnd : Nat → Nat
  | 0 => 2 ^ 201
  | k + 1 => 2 * (bnd k * bnd k)
theorem bnd_4 : bnd 4 < 2 ^ 3999 := by decide
theorem bnd_mono {a b : Nat} (h : a ≤ b) : bnd a ≤ bnd b := by
  induction h with
  | refl => exact Nat.le_refl _
  | @step m h ih =>
    refine Nat.le_trans ih ?_
    have p : 1 ≤ bnd m := by
      clear ih h
      induction m with
      | zero => decide
      | succ k ih => show 1 ≤ 2 * (bnd k * bnd k); have := Nat.mul_le_mul ih ih; omega
    show bnd m ≤ 2 * (bnd m * bnd m)
    have := Nat.mul_le_mul_left (bnd m) p
    omega
theorem clr_len {p l : List Int} {c : Nat} {s : Int} : (clr p l c s).length = min l.length p.length := by simp [clr]
theorem clr_ab {p l : List Int} {c b : Nat} {s : Int} (hp : Rb b p) (hl : Rb b l) (hs : s ≠ 0) : Rb (2 * (b * b)) (clr p l c s) := by
  intro x hx
  obtain ⟨i, h, rfl⟩ := List.getElem_of_mem hx
  have hil : i < l.length := by rw [clr_len] at h; omega
  have hip : i < p.length := by rw [clr_len] at h; omega
  simp only [clr, List.getElem_zipWith]
  refine fdiv_abs ?_ hs
  have := sub_abs (mul_abs (hp.get c) (hl _ (List.getElem_mem hil))) (mul_abs (hl.get c) (hp _ (List.getElem_mem hip)))
  omega
theorem elimR_sq {n c j : Nat} {s : Int} {L : List (List Int)} (q : Sq n L) (hc : c < n) : Sq n (elimR L c s j) := by
  refine ⟨elimR_len.trans q.len, fun r hr => ?_, q.pos, q.few⟩
  simp only [elimR, List.mem_map, List.mem_range] at hr
  obtain ⟨p, hp, rfl⟩ := hr
  have h1 := row_of q hc
  have h2 := row_of q (i := p) (by rw [← q.len]; exact hp)
  split
  · rw [clr_len, h1, h2]; exact Nat.min_self _
  · exact h2
theorem elimR_ab {n c j b : Nat} {s : Int} {L : List (List Int)} (q : Sq n L) (h : Ab b L) (hs : s ≠ 0) : Ab (2 * (b * b)) (elimR L c s j) := by
  intro r hr
  simp only [elimR, List.mem_map, List.mem_range] at hr
  obtain ⟨p, hp, rfl⟩ := hr
  split
  · exact clr_ab (h.row _) (h.row _) hs
  · intro x hx
    have hb := h.row p x hx
    rcases Nat.eq_zero_or_pos b with e | e
    · subst e; omega
    · have := Nat.mul_le_mul_left b e
      omega
theorem swapR_sq {n i j : Nat} {L : List (List Int)} (q : Sq n L) (hi : i < n) (hj : j < n) : Sq n (swapR L i j) := by
  refine ⟨swapR_len.trans q.len, fun r hr => ?_, q.pos, q.few⟩
  rcases List.mem_or_eq_of_mem_set hr with h | rfl
  · rcases List.mem_or_eq_of_mem_set h with h | rfl
    · exact q.row r h
    · exact row_of q hj
  · exact row_of q hi
theorem swapR_ab {i j b : Nat} {L : List (List Int)} (h : Ab b L) : Ab b (swapR L i j) := by
  intro r hr
  rcases List.mem_or_eq_of_mem_set hr with h1 | rfl
  · rcases List.mem_or_eq_of_mem_set h1 with h1 | rfl
    · exact h r h1
    · exact h.row j
  · exact h.row i
section
variable {K : PySem.W.Frag} {σ : L2.St} {H : Hp} {te : TE} {vs : List Nat} {Q : VK} {J : It} {n i : Nat} {G : Hp → Prop} {wi : TI} {Y : Nat → Hp → V → Hp → Prop}
theorem Same.upd {D : Addr} {u : HO} {H1 H2 : Hp} (e : Same H1 H2) : Same (upd H1 D u) (upd H2 D u) := fun a o h => by
  by_cases c : a = D
  · subst c; rw [upd_same] at h ⊢; exact h
  · rw [upd_ne c] at h ⊢; exact e a o h
/-- a comprehension, each element told by what it is in the heap -/
theorem comp_ok (w : Walk J n G Y) (Px : Nat → V → Prop) (hY : ∀ k H1 x H2, Y k H1 x H2 → H2 = H1 ∧ Px k x) (Ok : Nat → Hp → V → Prop) (mono : ∀ k H1 H2 y, Same H1 H2 → Ok k H1 y → Ok k H2 y) (hz : n < 100000)
    (hG : ∀ H', Same H H' → G H') (h0 : ∀ R : It → Hp → Prop, R J H → wi σ H R) (hw : ∀ x, wipe ((wipe σ vs).set i (some x)) vs = wipe σ vs)
    (hel : ∀ (k : Nat) (x : V) (D : Addr) (acc : List V) (H1 : Hp) (Q' : VK), k < n → Px k x → Same H H1 → H D = none → H1 D = some (.lst acc) →
      (∀ y H2, Same H1 H2 → (∀ u, Ok k (upd H2 D u) y) → Q' y H2) → te ((wipe σ vs).set i (some x)) H1 Q')
    (q : ∀ D ys H', Same H H' → H D = none → ys.length = n → (∀ k y, ys[k]? = some y → ∀ u, Ok k (upd H' D u) y) → H' D = some (.lst ys) → Q (.ref D) H') :
    tLc wi (gName i) tYes te vs σ H Q := by
  refine h0 _ fun D hD => ?_
  refine lc_it w (fun k H' => Same H H' ∧ ∃ ys : List V, ys.length = k ∧ (∀ m y, ys[m]? = some y → ∀ u, Ok m (upd H' D u) y) ∧ H' D = some (.lst ys))
    ⟨same_new hD, [], rfl, fun m y h => by simp at h, upd_same⟩ (fun k H' _ h => hG H' h.1) ?_ ?_
  · rintro k x H1 H2 hk ⟨e1, ys, hl, hok, hL⟩ hy
    obtain ⟨rfl, hp⟩ := hY k H1 x H2 hy
    refine ⟨hw x, yes_of (hel k x D ys _ _ hk hp e1 hD hL fun y H3 e3 ok3 => ?_)⟩
    have hL3 := e3 D _ hL
    refine ⟨ys, hL3, Evl.sz_lt (by omega), ?_, ys ++ [y], by simp [hl], ?_, upd_same⟩
    · intro a o h
      rw [upd_ne (ne_of_none h hD)]
      exact e3 a o (e1 a o h)
    · intro m y' hm u
      have eu : ∀ v, upd (upd H3 D v) D u = upd H3 D u := fun v => by
        funext a
        by_cases c : a = D
        · subst c; rw [upd_same, upd_same]
        · rw [upd_ne c, upd_ne c, upd_ne c]
      rw [eu]
      rcases Nat.lt_or_ge m ys.length with c | c
      · rw [List.getElem?_append_left c] at hm
        exact mono m _ _ y' (Same.upd e3) (hok m y' hm u)
      · rw [List.getElem?_append_right c] at hm
        have hmk : m = k := by
          have := (List.getElem?_eq_some_iff.mp hm).1
          simp at this; omega
        subst hmk
        rw [hl, Nat.sub_self] at hm
        simp at hm
        subst hm
        exact ok3 u
  · rintro H1 ⟨e1, ys, hl, hok, hL⟩
    exact q D ys H1 e1 hD hl hok hL
def LfAt (f : Nat → List Int) (k : Nat) (H : Hp) (y : V) : Prop := ∃ t, y = .ref t ∧ H t = some (.lst (irow (f k)))
theorem lf_all {f : Nat → List Int} {D : Addr} {n : Nat} {H : Hp} {ys : List V} (hL : H D = some (.lst ys)) (hl : ys.length = n) (h : ∀ (k : Nat) y, ys[k]? = some y → ∀ u, LfAt f k (upd H D u) y) : L0 H D ys ((List.range n).map f) := by
  refine ⟨hL, by simp [hl], fun j r hj => ?_⟩
  rw [List.getElem?_map, Option.map_eq_some_iff] at hj
  obtain ⟨x, hx, rfl⟩ := hj
  have hjn : j < n := by
    have := (List.getElem?_eq_some_iff.mp hx).1
    simpa using this
  obtain rfl : j = x := by simpa [hjn] using hx
  have hy : ys[j]? = some ys[j] := List.getElem?_eq_getElem (by omega)
  obtain ⟨t, h1, h2⟩ := h j _ hy (.tup [])
  have hne : t ≠ D := fun e => by subst e; rw [upd_same] at h2; cases h2
  rw [upd_ne hne] at h2
  rw [h1] at hy
  exact ⟨t, hy, hne, h2⟩
end
theorem dp_ints {K : PySem.W.Frag} {H : Hp} : ∀ ns : List Int, DpAll K H (irow ns) (ns.map PyData.int)
  | [] => .nil
  | n :: ns => .cons (.int n) (dp_ints ns)
theorem lst_shaped (r : List Int) : SeqAt.shaped (.list (r.map PyData.int)) = true := by
  have c : PyData.canLay0 (.list (r.map PyData.int)) = true := by
    unfold PyData.canLay0
    exact row_can r
  have d : PyData.depth (.list (r.map PyData.int)) ≤ 64 := by
    unfold PyData.depth
    rw [row_depth r]
    omega
  unfold SeqAt.shaped
  rw [c, decide_eq_true d]
  rfl
theorem lst_eqv (x y : List Int) : PyData.eqv (.list (x.map PyData.int)) (.list (y.map PyData.int)) = decide (x = y) := by
  unfold PyData.eqv
  exact row_eqv x y
end My

set_option maxHeartbeats 2000000
namespace K06
open PySem PySem.Spec PyProof.Rows L2 My
abbrev St := L2.St
def top (i : Nat) : Stmt := PySem.Challenge.pw_ballgrids_k06_whole_led_and_moved_tables.main.body.getD i (.Pass ⟨0, 0, 0, 0⟩)
abbrev s_is_whole : Stmt := top 7
abbrev names_is_whole : List Str := ["value"]
theorem sc_is_whole : FnScope names_is_whole ["value"] (defScope s_is_whole) := ⟨rfl, rfl, rfl, by decide +kernel, rfl, by decide +kernel, by decide +kernel⟩
abbrev s_is_integer : Stmt := top 8
abbrev names_is_integer : List Str := ["value"]
theorem sc_is_integer : FnScope names_is_integer ["value"] (defScope s_is_integer) := ⟨rfl, rfl, rfl, by decide +kernel, rfl, by decide +kernel, by decide +kernel⟩
abbrev s_are_integers : Stmt := top 9
abbrev names_are_integers : List Str := ["value", "least", "most", "number"]
theorem sc_are_integers : FnScope names_are_integers ["value", "least", "most"] (defScope s_are_integers) := ⟨rfl, rfl, rfl, by decide +kernel, rfl, by decide +kernel, by decide +kernel⟩
abbrev s_dot : Stmt := top 11
abbrev names_dot : List Str := ["one", "other", "first", "second"]
theorem sc_dot : FnScope names_dot ["one", "other"] (defScope s_dot) := ⟨rfl, rfl, rfl, by decide +kernel, rfl, by decide +kernel, by decide +kernel⟩
abbrev s_turned : Stmt := top 12
abbrev names_turned : List Str := ["lines"]
theorem sc_turned : FnScope names_turned ["lines"] (defScope s_turned) := ⟨rfl, rfl, rfl, by decide +kernel, rfl, by decide +kernel, by decide +kernel⟩
abbrev s_multiplied : Stmt := top 13
abbrev names_multiplied : List Str := ["one", "other", "columns", "column", "line"]
theorem sc_multiplied : FnScope names_multiplied ["one", "other"] (defScope s_multiplied) := ⟨rfl, rfl, rfl, by decide +kernel, rfl, by decide +kernel, by decide +kernel⟩
abbrev s_first_other_than_0 : Stmt := top 14
abbrev names_first_other_than_0 : List Str := ["numbers", "index", "number"]
theorem sc_first_other_than_0 : FnScope names_first_other_than_0 ["numbers"] (defScope s_first_other_than_0) := ⟨rfl, rfl, rfl, by decide +kernel, rfl, by decide +kernel, by decide +kernel⟩
abbrev s_without : Stmt := top 15
abbrev names_without : List Str := ["things", "index"]
theorem sc_without : FnScope names_without ["things", "index"] (defScope s_without) := ⟨rfl, rfl, rfl, by decide +kernel, rfl, by decide +kernel, by decide +kernel⟩
abbrev s_cleared_line : Stmt := top 16
abbrev names_cleared_line : List Str := ["pivot", "line", "column", "scale", "ahead", "behind", "number", "other"]
theorem sc_cleared_line : FnScope names_cleared_line ["pivot", "line", "column", "scale"] (defScope s_cleared_line) := ⟨rfl, rfl, rfl, by decide +kernel, rfl, by decide +kernel, by decide +kernel⟩
abbrev s_determinant_of_two : Stmt := top 17
abbrev names_determinant_of_two : List Str := ["lines", "first", "second", "third", "fourth"]
theorem sc_determinant_of_two : FnScope names_determinant_of_two ["lines"] (defScope s_determinant_of_two) := ⟨rfl, rfl, rfl, by decide +kernel, rfl, by decide +kernel, by decide +kernel⟩
abbrev s_determinant_of_three : Stmt := top 18
abbrev names_determinant_of_three : List Str := ["lines", "first", "second", "third", "one", "other"]
theorem sc_determinant_of_three : FnScope names_determinant_of_three ["lines"] (defScope s_determinant_of_three) := ⟨rfl, rfl, rfl, by decide +kernel, rfl, by decide +kernel, by decide +kernel⟩
abbrev s_determinant_of_four : Stmt := top 19
abbrev names_determinant_of_four : List Str := ["lines", "one", "two", "three", "four"]
theorem sc_determinant_of_four : FnScope names_determinant_of_four ["lines"] (defScope s_determinant_of_four) := ⟨rfl, rfl, rfl, by decide +kernel, rfl, by decide +kernel, by decide +kernel⟩
abbrev s_determinant_of : Stmt := top 20
abbrev names_determinant_of : List Str := ["lines", "size"]
theorem sc_determinant_of : FnScope names_determinant_of ["lines"] (defScope s_determinant_of) := ⟨rfl, rfl, rfl, by decide +kernel, rfl, by decide +kernel, by decide +kernel⟩
abbrev s_eliminated_determinant : Stmt := top 21
abbrev names_eliminated_determinant : List Str := ["lines", "rest", "scale", "sign", "column", "index", "line", "pivot"]
theorem sc_eliminated_determinant : FnScope names_eliminated_determinant ["lines"] (defScope s_eliminated_determinant) := ⟨rfl, rfl, rfl, by decide +kernel, rfl, by decide +kernel, by decide +kernel⟩
abbrev s_minor : Stmt := top 22
abbrev names_minor : List Str := ["lines", "row", "column", "line"]
theorem sc_minor : FnScope names_minor ["lines", "row", "column"] (defScope s_minor) := ⟨rfl, rfl, rfl, by decide +kernel, rfl, by decide +kernel, by decide +kernel⟩
abbrev s_adjugate : Stmt := top 23
abbrev names_adjugate : List Str := ["lines", "size", "column", "row"]
theorem sc_adjugate : FnScope names_adjugate ["lines"] (defScope s_adjugate) := ⟨rfl, rfl, rfl, by decide +kernel, rfl, by decide +kernel, by decide +kernel⟩
abbrev s_is_long_row : Stmt := top 25
abbrev names_is_long_row : List Str := ["size", "value", "number"]
theorem sc_is_long_row : FnScope names_is_long_row ["size", "value"] (defScope s_is_long_row) := ⟨rfl, rfl, rfl, by decide +kernel, rfl, by decide +kernel, by decide +kernel⟩
abbrev s_is_long_square : Stmt := top 26
abbrev names_is_long_square : List Str := ["size", "value", "row"]
theorem sc_is_long_square : FnScope names_is_long_square ["size", "value"] (defScope s_is_long_square) := ⟨rfl, rfl, rfl, by decide +kernel, rfl, by decide +kernel, by decide +kernel⟩
abbrev s_is_long_matrix : Stmt := top 27
abbrev names_is_long_matrix : List Str := ["size", "value"]
theorem sc_is_long_matrix : FnScope names_is_long_matrix ["size", "value"] (defScope s_is_long_matrix) := ⟨rfl, rfl, rfl, by decide +kernel, rfl, by decide +kernel, by decide +kernel⟩
abbrev s_image : Stmt := top 29
abbrev names_image : List Str := ["matrix", "row", "line"]
theorem sc_image : FnScope names_image ["matrix", "row"] (defScope s_image) := ⟨rfl, rfl, rfl, by decide +kernel, rfl, by decide +kernel, by decide +kernel⟩
abbrev s_pairing_of : Stmt := top 30
abbrev names_pairing_of : List Str := ["table", "one", "other"]
theorem sc_pairing_of : FnScope names_pairing_of ["table", "one", "other"] (defScope s_pairing_of) := ⟨rfl, rfl, rfl, by decide +kernel, rfl, by decide +kernel, by decide +kernel⟩
abbrev s_value_at : Stmt := top 31
abbrev names_value_at : List Str := ["table", "row"]
theorem sc_value_at : FnScope names_value_at ["table", "row"] (defScope s_value_at) := ⟨rfl, rfl, rfl, by decide +kernel, rfl, by decide +kernel, by decide +kernel⟩
abbrev s_led_by : Stmt := top 32
abbrev names_led_by : List Str := ["table", "matrix"]
theorem sc_led_by : FnScope names_led_by ["table", "matrix"] (defScope s_led_by) := ⟨rfl, rfl, rfl, by decide +kernel, rfl, by decide +kernel, by decide +kernel⟩
abbrev s_moved_by : Stmt := top 33
abbrev names_moved_by : List Str := ["table", "matrix"]
theorem sc_moved_by : FnScope names_moved_by ["table", "matrix"] (defScope s_moved_by) := ⟨rfl, rfl, rfl, by decide +kernel, rfl, by decide +kernel, by decide +kernel⟩
abbrev s_undone : Stmt := top 34
abbrev names_undone : List Str := ["matrix", "sign", "number", "line"]
theorem sc_undone : FnScope names_undone ["matrix"] (defScope s_undone) := ⟨rfl, rfl, rfl, by decide +kernel, rfl, by decide +kernel, by decide +kernel⟩
abbrev s_entries_of : Stmt := top 35
abbrev names_entries_of : List Str := ["table", "row", "entry"]
theorem sc_entries_of : FnScope names_entries_of ["table"] (defScope s_entries_of) := ⟨rfl, rfl, rfl, by decide +kernel, rfl, by decide +kernel, by decide +kernel⟩
abbrev s_made_together : Stmt := top 36
abbrev names_made_together : List Str := ["one", "other"]
theorem sc_made_together : FnScope names_made_together ["one", "other"] (defScope s_made_together) := ⟨rfl, rfl, rfl, by decide +kernel, rfl, by decide +kernel, by decide +kernel⟩
abbrev s_size_of : Stmt := top 39
abbrev names_size_of : List Str := ["value"]
theorem sc_size_of : FnScope names_size_of ["value"] (defScope s_size_of) := ⟨rfl, rfl, rfl, by decide +kernel, rfl, by decide +kernel, by decide +kernel⟩
abbrev s_fits_row : Stmt := top 40
abbrev names_fits_row : List Str := ["size", "value"]
theorem sc_fits_row : FnScope names_fits_row ["size", "value"] (defScope s_fits_row) := ⟨rfl, rfl, rfl, by decide +kernel, rfl, by decide +kernel, by decide +kernel⟩
abbrev s_fits_square : Stmt := top 41
abbrev names_fits_square : List Str := ["size", "value", "row"]
theorem sc_fits_square : FnScope names_fits_square ["size", "value"] (defScope s_fits_square) := ⟨rfl, rfl, rfl, by decide +kernel, rfl, by decide +kernel, by decide +kernel⟩
abbrev s_fits_table : Stmt := top 42
abbrev names_fits_table : List Str := ["size", "value"]
theorem sc_fits_table : FnScope names_fits_table ["size", "value"] (defScope s_fits_table) := ⟨rfl, rfl, rfl, by decide +kernel, rfl, by decide +kernel, by decide +kernel⟩
abbrev s_fits_matrix : Stmt := top 43
abbrev names_fits_matrix : List Str := ["size", "value"]
theorem sc_fits_matrix : FnScope names_fits_matrix ["size", "value"] (defScope s_fits_matrix) := ⟨rfl, rfl, rfl, by decide +kernel, rfl, by decide +kernel, by decide +kernel⟩
abbrev s_need_row : Stmt := top 44
abbrev names_need_row : List Str := ["size", "row"]
theorem sc_need_row : FnScope names_need_row ["size", "row"] (defScope s_need_row) := ⟨rfl, rfl, rfl, by decide +kernel, rfl, by decide +kernel, by decide +kernel⟩
abbrev s_need_table : Stmt := top 45
abbrev names_need_table : List Str := ["size", "table"]
theorem sc_need_table : FnScope names_need_table ["size", "table"] (defScope s_need_table) := ⟨rfl, rfl, rfl, by decide +kernel, rfl, by decide +kernel, by decide +kernel⟩
abbrev s_need_matrix : Stmt := top 46
abbrev names_need_matrix : List Str := ["size", "matrix"]
theorem sc_need_matrix : FnScope names_need_matrix ["size", "matrix"] (defScope s_need_matrix) := ⟨rfl, rfl, rfl, by decide +kernel, rfl, by decide +kernel, by decide +kernel⟩
abbrev s_matrix_product : Stmt := top 47
abbrev names_matrix_product : List Str := ["one", "other", "size"]
theorem sc_matrix_product : FnScope names_matrix_product ["one", "other"] (defScope s_matrix_product) := ⟨rfl, rfl, rfl, by decide +kernel, rfl, by decide +kernel, by decide +kernel⟩
abbrev s_matrix_back : Stmt := top 48
abbrev names_matrix_back : List Str := ["matrix"]
theorem sc_matrix_back : FnScope names_matrix_back ["matrix"] (defScope s_matrix_back) := ⟨rfl, rfl, rfl, by decide +kernel, rfl, by decide +kernel, by decide +kernel⟩
abbrev s_square : Stmt := top 49
abbrev names_square : List Str := ["row", "second", "first"]
theorem sc_square : FnScope names_square ["row"] (defScope s_square) := ⟨rfl, rfl, rfl, by decide +kernel, rfl, by decide +kernel, by decide +kernel⟩
abbrev s_led_row : Stmt := top 50
abbrev names_led_row : List Str := ["matrix", "row", "size"]
theorem sc_led_row : FnScope names_led_row ["matrix", "row"] (defScope s_led_row) := ⟨rfl, rfl, rfl, by decide +kernel, rfl, by decide +kernel, by decide +kernel⟩
abbrev s_led_table : Stmt := top 51
abbrev names_led_table : List Str := ["table", "matrix", "size"]
theorem sc_led_table : FnScope names_led_table ["table", "matrix"] (defScope s_led_table) := ⟨rfl, rfl, rfl, by decide +kernel, rfl, by decide +kernel, by decide +kernel⟩
abbrev s_moved_table : Stmt := top 52
abbrev names_moved_table : List Str := ["table", "matrix", "size"]
theorem sc_moved_table : FnScope names_moved_table ["table", "matrix"] (defScope s_moved_table) := ⟨rfl, rfl, rfl, by decide +kernel, rfl, by decide +kernel, by decide +kernel⟩
abbrev s_table_value : Stmt := top 53
abbrev names_table_value : List Str := ["table", "row", "size"]
theorem sc_table_value : FnScope names_table_value ["table", "row"] (defScope s_table_value) := ⟨rfl, rfl, rfl, by decide +kernel, rfl, by decide +kernel, by decide +kernel⟩
abbrev s_together : Stmt := top 54
abbrev names_together : List Str := ["one", "other", "size"]
theorem sc_together : FnScope names_together ["one", "other"] (defScope s_together) := ⟨rfl, rfl, rfl, by decide +kernel, rfl, by decide +kernel, by decide +kernel⟩
abbrev s__law_bag : Stmt := top 56
abbrev names__law_bag : List Str := ["_law_script", "_law_spot", "_law_cell", "_law_great", "_law_mixed_here"]
theorem sc__law_bag : FnScope names__law_bag ["_law_script", "_law_spot"] (defScope s__law_bag) := ⟨rfl, rfl, rfl, by decide +kernel, rfl, by decide +kernel, by decide +kernel⟩
abbrev s__law_grab : Stmt := top 57
abbrev names__law_grab : List Str := ["_law_bag_here", "_law_total", "_law_found", "_law_one", "_law_two"]
theorem sc__law_grab : FnScope names__law_grab ["_law_bag_here", "_law_total"] (defScope s__law_grab) := ⟨rfl, rfl, rfl, by decide +kernel, rfl, by decide +kernel, by decide +kernel⟩
abbrev s__law_one_of : Stmt := top 58
abbrev names__law_one_of : List Str := ["_law_bag_here", "_law_items"]
theorem sc__law_one_of : FnScope names__law_one_of ["_law_bag_here", "_law_items"] (defScope s__law_one_of) := ⟨rfl, rfl, rfl, by decide +kernel, rfl, by decide +kernel, by decide +kernel⟩
abbrev s__law_mixed : Stmt := top 59
abbrev names__law_mixed : List Str := ["_law_bag_here", "_law_items", "_law_waits", "_law_turn"]
theorem sc__law_mixed : FnScope names__law_mixed ["_law_bag_here", "_law_items"] (defScope s__law_mixed) := ⟨rfl, rfl, rfl, by decide +kernel, rfl, by decide +kernel, by decide +kernel⟩
abbrev s__law_size : Stmt := top 60
abbrev names__law_size : List Str := ["_law_bag_here"]
theorem sc__law_size : FnScope names__law_size ["_law_bag_here"] (defScope s__law_size) := ⟨rfl, rfl, rfl, by decide +kernel, rfl, by decide +kernel, by decide +kernel⟩
abbrev s__law_number : Stmt := top 61
abbrev names__law_number : List Str := ["_law_bag_here", "_law_spread"]
theorem sc__law_number : FnScope names__law_number ["_law_bag_here", "_law_spread"] (defScope s__law_number) := ⟨rfl, rfl, rfl, by decide +kernel, rfl, by decide +kernel, by decide +kernel⟩
abbrev s__law_some_row : Stmt := top 62
abbrev names__law_some_row : List Str := ["_law_bag_here", "_law_size_here", "_law_spread", "_law_found", "_law_turn"]
theorem sc__law_some_row : FnScope names__law_some_row ["_law_bag_here", "_law_size_here", "_law_spread"] (defScope s__law_some_row) := ⟨rfl, rfl, rfl, by decide +kernel, rfl, by decide +kernel, by decide +kernel⟩
abbrev s__law_some_table : Stmt := top 63
abbrev names__law_some_table : List Str := ["_law_bag_here", "_law_size_here", "_law_spread", "_law_numbers", "_law_turn", "_law_line", "_law_to", "_law_at"]
theorem sc__law_some_table : FnScope names__law_some_table ["_law_bag_here", "_law_size_here", "_law_spread"] (defScope s__law_some_table) := ⟨rfl, rfl, rfl, by decide +kernel, rfl, by decide +kernel, by decide +kernel⟩
abbrev s__law_matrix : Stmt := top 64
abbrev names__law_matrix : List Str := ["_law_bag_here", "_law_size_here", "_law_most", "_law_rows", "_law_to", "_law_at", "_law_turn", "_law_many", "_law_one", "_law_other", "_law_signs", "_law_number_here", "_law_sign", "_law_row"]
theorem sc__law_matrix : FnScope names__law_matrix ["_law_bag_here", "_law_size_here", "_law_most"] (defScope s__law_matrix) := ⟨rfl, rfl, rfl, by decide +kernel, rfl, by decide +kernel, by decide +kernel⟩
abbrev s__law_names : Stmt := top 65
abbrev names__law_names : List Str := ["_law_size_here"]
theorem sc__law_names : FnScope names__law_names ["_law_size_here"] (defScope s__law_names) := ⟨rfl, rfl, rfl, by decide +kernel, rfl, by decide +kernel, by decide +kernel⟩
abbrev s__law_told : Stmt := top 66
abbrev names__law_told : List Str := ["_law_name", "_law_size_here", "_law_to", "_law_at"]
theorem sc__law_told : FnScope names__law_told ["_law_name"] (defScope s__law_told) := ⟨rfl, rfl, rfl, by decide +kernel, rfl, by decide +kernel, by decide +kernel⟩
abbrev s__law_plain_rays : Stmt := top 67
abbrev names__law_plain_rays : List Str := ["_law_size_here", "_law_found", "_law_to", "_law_at", "_law_place"]
theorem sc__law_plain_rays : FnScope names__law_plain_rays ["_law_size_here"] (defScope s__law_plain_rays) := ⟨rfl, rfl, rfl, by decide +kernel, rfl, by decide +kernel, by decide +kernel⟩
abbrev s__law_summed : Stmt := top 68
abbrev names__law_summed : List Str := ["_law_size_here", "_law_rows", "_law_weights", "_law_found", "_law_at", "_law_row", "_law_weight", "_law_to"]
theorem sc__law_summed : FnScope names__law_summed ["_law_size_here", "_law_rows", "_law_weights"] (defScope s__law_summed) := ⟨rfl, rfl, rfl, by decide +kernel, rfl, by decide +kernel, by decide +kernel⟩
abbrev s__law_begun : Stmt := top 69
abbrev names__law_begun : List Str := ["_law_bag_here", "_law_size_here", "_law_way", "_law_name", "_law_rays", "_law_ray", "_law_rows", "_law_turn", "_law_numbers", "_law_to", "_law_at", "_law_change", "_law_many", "_law_told_here"]
theorem sc__law_begun : FnScope names__law_begun ["_law_bag_here", "_law_size_here"] (defScope s__law_begun) := ⟨rfl, rfl, rfl, by decide +kernel, rfl, by decide +kernel, by decide +kernel⟩
abbrev s__law_positive : Stmt := top 70
abbrev names__law_positive : List Str := ["_law_bag_here", "_law_size_here", "_law_found", "_law_plain", "_law_to", "_law_at"]
theorem sc__law_positive : FnScope names__law_positive ["_law_bag_here", "_law_size_here"] (defScope s__law_positive) := ⟨rfl, rfl, rfl, by decide +kernel, rfl, by decide +kernel, by decide +kernel⟩
abbrev s__law_wide : Stmt := top 71
abbrev names__law_wide : List Str := ["_law_bag_here", "_law_size_here", "_law_one", "_law_other", "_law_found"]
theorem sc__law_wide : FnScope names__law_wide ["_law_bag_here", "_law_size_here"] (defScope s__law_wide) := ⟨rfl, rfl, rfl, by decide +kernel, rfl, by decide +kernel, by decide +kernel⟩
abbrev s__law_pairing : Stmt := top 72
abbrev names__law_pairing : List Str := ["_law_table", "_law_one", "_law_other", "_law_found", "_law_here", "_law_line", "_law_number_here", "_law_there"]
theorem sc__law_pairing : FnScope names__law_pairing ["_law_table", "_law_one", "_law_other"] (defScope s__law_pairing) := ⟨rfl, rfl, rfl, by decide +kernel, rfl, by decide +kernel, by decide +kernel⟩
abbrev s__law_value : Stmt := top 73
abbrev names__law_value : List Str := ["_law_table", "_law_row"]
theorem sc__law_value : FnScope names__law_value ["_law_table", "_law_row"] (defScope s__law_value) := ⟨rfl, rfl, rfl, by decide +kernel, rfl, by decide +kernel, by decide +kernel⟩
abbrev s__law_turned : Stmt := top 74
abbrev names__law_turned : List Str := ["_law_rows", "_law_row", "_law_at"]
theorem sc__law_turned : FnScope names__law_turned ["_law_rows"] (defScope s__law_turned) := ⟨rfl, rfl, rfl, by decide +kernel, rfl, by decide +kernel, by decide +kernel⟩
abbrev s__law_row_led : Stmt := top 75
abbrev names__law_row_led : List Str := ["_law_matrix_here", "_law_row", "_law_number_here", "_law_there", "_law_line"]
theorem sc__law_row_led : FnScope names__law_row_led ["_law_matrix_here", "_law_row"] (defScope s__law_row_led) := ⟨rfl, rfl, rfl, by decide +kernel, rfl, by decide +kernel, by decide +kernel⟩
abbrev s__law_product : Stmt := top 76
abbrev names__law_product : List Str := ["_law_one", "_law_other", "_law_columns", "_law_row"]
theorem sc__law_product : FnScope names__law_product ["_law_one", "_law_other"] (defScope s__law_product) := ⟨rfl, rfl, rfl, by decide +kernel, rfl, by decide +kernel, by decide +kernel⟩
abbrev s__law_led : Stmt := top 77
abbrev names__law_led : List Str := ["_law_table", "_law_matrix_here"]
theorem sc__law_led : FnScope names__law_led ["_law_table", "_law_matrix_here"] (defScope s__law_led) := ⟨rfl, rfl, rfl, by decide +kernel, rfl, by decide +kernel, by decide +kernel⟩
abbrev s__law_moved : Stmt := top 78
abbrev names__law_moved : List Str := ["_law_table", "_law_matrix_here"]
theorem sc__law_moved : FnScope names__law_moved ["_law_table", "_law_matrix_here"] (defScope s__law_moved) := ⟨rfl, rfl, rfl, by decide +kernel, rfl, by decide +kernel, by decide +kernel⟩
abbrev s__law_determinant : Stmt := top 79
abbrev names__law_determinant : List Str := ["_law_rows", "_law_left", "_law_sign", "_law_head", "_law_row", "_law_at", "_law_some", "_law_place", "_law_lead", "_law_line", "_law_one", "_law_other"]
theorem sc__law_determinant : FnScope names__law_determinant ["_law_rows"] (defScope s__law_determinant) := ⟨rfl, rfl, rfl, by decide +kernel, rfl, by decide +kernel, by decide +kernel⟩
abbrev s__law_adjoint : Stmt := top 80
abbrev names__law_adjoint : List Str := ["_law_table", "_law_size_here", "_law_found", "_law_at", "_law_line", "_law_place", "_law_left", "_law_spot", "_law_index", "_law_row"]
theorem sc__law_adjoint : FnScope names__law_adjoint ["_law_table"] (defScope s__law_adjoint) := ⟨rfl, rfl, rfl, by decide +kernel, rfl, by decide +kernel, by decide +kernel⟩
abbrev s__law_together : Stmt := top 81
abbrev names__law_together : List Str := ["_law_one", "_law_other", "_law_here", "_law_there", "_law_row", "_law_line"]
theorem sc__law_together : FnScope names__law_together ["_law_one", "_law_other"] (defScope s__law_together) := ⟨rfl, rfl, rfl, by decide +kernel, rfl, by decide +kernel, by decide +kernel⟩
abbrev s__law_plus : Stmt := top 82
abbrev names__law_plus : List Str := ["_law_one", "_law_other", "_law_factor", "_law_here", "_law_there", "_law_row", "_law_line"]
theorem sc__law_plus : FnScope names__law_plus ["_law_one", "_law_other", "_law_factor"] (defScope s__law_plus) := ⟨rfl, rfl, rfl, by decide +kernel, rfl, by decide +kernel, by decide +kernel⟩
abbrev s__law_is_positive : Stmt := top 83
abbrev names__law_is_positive : List Str := ["_law_table", "_law_many", "_law_row"]
theorem sc__law_is_positive : FnScope names__law_is_positive ["_law_table"] (defScope s__law_is_positive) := ⟨rfl, rfl, rfl, by decide +kernel, rfl, by decide +kernel, by decide +kernel⟩
abbrev s__law_led_right : Stmt := top 84
abbrev names__law_led_right : List Str := ["_law_size_here", "_law_table", "_law_matrix_here", "_law_row", "_law_told_here"]
theorem sc__law_led_right : FnScope names__law_led_right ["_law_size_here", "_law_table", "_law_matrix_here", "_law_row"] (defScope s__law_led_right) := ⟨rfl, rfl, rfl, by decide +kernel, rfl, by decide +kernel, by decide +kernel⟩
abbrev s__law_moved_right : Stmt := top 85
abbrev names__law_moved_right : List Str := ["_law_table", "_law_other", "_law_matrix_here", "_law_row", "_law_told_here"]
theorem sc__law_moved_right : FnScope names__law_moved_right ["_law_table", "_law_other", "_law_matrix_here", "_law_row"] (defScope s__law_moved_right) := ⟨rfl, rfl, rfl, by decide +kernel, rfl, by decide +kernel, by decide +kernel⟩
abbrev s__law_both_right : Stmt := top 86
abbrev names__law_both_right : List Str := ["_law_table", "_law_one", "_law_other", "_law_both"]
theorem sc__law_both_right : FnScope names__law_both_right ["_law_table", "_law_one", "_law_other"] (defScope s__law_both_right) := ⟨rfl, rfl, rfl, by decide +kernel, rfl, by decide +kernel, by decide +kernel⟩
abbrev s_law : Stmt := top 87
abbrev names_law : List Str := ["_law_script", "_law_spot", "_law_bag_here", "_law_size_here", "_law_tables", "_law_one", "_law_other", "_law_row", "_law_at", "_law_table", "_law_turn", "_law_plane"]
theorem sc_law : FnScope names_law ["_law_script"] (defScope s_law) := ⟨rfl, rfl, rfl, by decide +kernel, rfl, by decide +kernel, by decide +kernel⟩
structure Adr where
  a_is_whole : Addr
  d_is_whole : FuncData
  a_is_integer : Addr
  d_is_integer : FuncData
  a_are_integers : Addr
  d_are_integers : FuncData
  a_dot : Addr
  d_dot : FuncData
  a_turned : Addr
  d_turned : FuncData
  a_multiplied : Addr
  d_multiplied : FuncData
  a_first_other_than_0 : Addr
  d_first_other_than_0 : FuncData
  a_without : Addr
  d_without : FuncData
  a_cleared_line : Addr
  d_cleared_line : FuncData
  a_determinant_of_two : Addr
  d_determinant_of_two : FuncData
  a_determinant_of_three : Addr
  d_determinant_of_three : FuncData
  a_determinant_of_four : Addr
  d_determinant_of_four : FuncData
  a_determinant_of : Addr
  d_determinant_of : FuncData
  a_eliminated_determinant : Addr
  d_eliminated_determinant : FuncData
  a_minor : Addr
  d_minor : FuncData
  a_adjugate : Addr
  d_adjugate : FuncData
  a_is_long_row : Addr
  d_is_long_row : FuncData
  a_is_long_square : Addr
  d_is_long_square : FuncData
  a_is_long_matrix : Addr
  d_is_long_matrix : FuncData
  a_image : Addr
  d_image : FuncData
  a_pairing_of : Addr
  d_pairing_of : FuncData
  a_value_at : Addr
  d_value_at : FuncData
  a_led_by : Addr
  d_led_by : FuncData
  a_moved_by : Addr
  d_moved_by : FuncData
  a_undone : Addr
  d_undone : FuncData
  a_entries_of : Addr
  d_entries_of : FuncData
  a_made_together : Addr
  d_made_together : FuncData
  a_size_of : Addr
  d_size_of : FuncData
  a_fits_row : Addr
  d_fits_row : FuncData
  a_fits_square : Addr
  d_fits_square : FuncData
  a_fits_table : Addr
  d_fits_table : FuncData
  a_fits_matrix : Addr
  d_fits_matrix : FuncData
  a_need_row : Addr
  d_need_row : FuncData
  a_need_table : Addr
  d_need_table : FuncData
  a_need_matrix : Addr
  d_need_matrix : FuncData
  a_matrix_product : Addr
  d_matrix_product : FuncData
  a_matrix_back : Addr
  d_matrix_back : FuncData
  a_square : Addr
  d_square : FuncData
  a_led_row : Addr
  d_led_row : FuncData
  a_led_table : Addr
  d_led_table : FuncData
  a_moved_table : Addr
  d_moved_table : FuncData
  a_table_value : Addr
  d_table_value : FuncData
  a_together : Addr
  d_together : FuncData
  a__law_bag : Addr
  d__law_bag : FuncData
  a__law_grab : Addr
  d__law_grab : FuncData
  a__law_one_of : Addr
  d__law_one_of : FuncData
  a__law_mixed : Addr
  d__law_mixed : FuncData
  a__law_size : Addr
  d__law_size : FuncData
  a__law_number : Addr
  d__law_number : FuncData
  a__law_some_row : Addr
  d__law_some_row : FuncData
  a__law_some_table : Addr
  d__law_some_table : FuncData
  a__law_matrix : Addr
  d__law_matrix : FuncData
  a__law_names : Addr
  d__law_names : FuncData
  a__law_told : Addr
  d__law_told : FuncData
  a__law_plain_rays : Addr
  d__law_plain_rays : FuncData
  a__law_summed : Addr
  d__law_summed : FuncData
  a__law_begun : Addr
  d__law_begun : FuncData
  a__law_positive : Addr
  d__law_positive : FuncData
  a__law_wide : Addr
  d__law_wide : FuncData
  a__law_pairing : Addr
  d__law_pairing : FuncData
  a__law_value : Addr
  d__law_value : FuncData
  a__law_turned : Addr
  d__law_turned : FuncData
  a__law_row_led : Addr
  d__law_row_led : FuncData
  a__law_product : Addr
  d__law_product : FuncData
  a__law_led : Addr
  d__law_led : FuncData
  a__law_moved : Addr
  d__law_moved : FuncData
  a__law_determinant : Addr
  d__law_determinant : FuncData
  a__law_adjoint : Addr
  d__law_adjoint : FuncData
  a__law_together : Addr
  d__law_together : FuncData
  a__law_plus : Addr
  d__law_plus : FuncData
  a__law_is_positive : Addr
  d__law_is_positive : FuncData
  a__law_led_right : Addr
  d__law_led_right : FuncData
  a__law_moved_right : Addr
  d__law_moved_right : FuncData
  a__law_both_right : Addr
  d__law_both_right : FuncData
  a_law : Addr
  d_law : FuncData
  u_TOO_LONG : Value
  t_SIZES : Addr
structure Txt (K : PySem.W.Frag) (mg : Str → Option Value) (A : Adr) : Prop where
  g_is_whole : mg "is_whole" = some (.ref A.a_is_whole)
  f_is_whole : Fun K "is_whole" "is_whole" s_is_whole A.a_is_whole A.d_is_whole
  g_is_integer : mg "is_integer" = some (.ref A.a_is_integer)
  f_is_integer : Fun K "is_integer" "is_integer" s_is_integer A.a_is_integer A.d_is_integer
  g_are_integers : mg "are_integers" = some (.ref A.a_are_integers)
  f_are_integers : Fun K "are_integers" "are_integers" s_are_integers A.a_are_integers A.d_are_integers
  g_dot : mg "dot" = some (.ref A.a_dot)
  f_dot : Fun K "dot" "dot" s_dot A.a_dot A.d_dot
  g_turned : mg "turned" = some (.ref A.a_turned)
  f_turned : Fun K "turned" "turned" s_turned A.a_turned A.d_turned
  g_multiplied : mg "multiplied" = some (.ref A.a_multiplied)
  f_multiplied : Fun K "multiplied" "multiplied" s_multiplied A.a_multiplied A.d_multiplied
  g_first_other_than_0 : mg "first_other_than_0" = some (.ref A.a_first_other_than_0)
  f_first_other_than_0 : Fun K "first_other_than_0" "first_other_than_0" s_first_other_than_0 A.a_first_other_than_0 A.d_first_other_than_0
  g_without : mg "without" = some (.ref A.a_without)
  f_without : Fun K "without" "without" s_without A.a_without A.d_without
  g_cleared_line : mg "cleared_line" = some (.ref A.a_cleared_line)
  f_cleared_line : Fun K "cleared_line" "cleared_line" s_cleared_line A.a_cleared_line A.d_cleared_line
  g_determinant_of_two : mg "determinant_of_two" = some (.ref A.a_determinant_of_two)
  f_determinant_of_two : Fun K "determinant_of_two" "determinant_of_two" s_determinant_of_two A.a_determinant_of_two A.d_determinant_of_two
  g_determinant_of_three : mg "determinant_of_three" = some (.ref A.a_determinant_of_three)
  f_determinant_of_three : Fun K "determinant_of_three" "determinant_of_three" s_determinant_of_three A.a_determinant_of_three A.d_determinant_of_three
  g_determinant_of_four : mg "determinant_of_four" = some (.ref A.a_determinant_of_four)
  f_determinant_of_four : Fun K "determinant_of_four" "determinant_of_four" s_determinant_of_four A.a_determinant_of_four A.d_determinant_of_four
  g_determinant_of : mg "determinant_of" = some (.ref A.a_determinant_of)
  f_determinant_of : Fun K "determinant_of" "determinant_of" s_determinant_of A.a_determinant_of A.d_determinant_of
  g_eliminated_determinant : mg "eliminated_determinant" = some (.ref A.a_eliminated_determinant)
  f_eliminated_determinant : Fun K "eliminated_determinant" "eliminated_determinant" s_eliminated_determinant A.a_eliminated_determinant A.d_eliminated_determinant
  g_minor : mg "minor" = some (.ref A.a_minor)
  f_minor : Fun K "minor" "minor" s_minor A.a_minor A.d_minor
  g_adjugate : mg "adjugate" = some (.ref A.a_adjugate)
  f_adjugate : Fun K "adjugate" "adjugate" s_adjugate A.a_adjugate A.d_adjugate
  g_is_long_row : mg "is_long_row" = some (.ref A.a_is_long_row)
  f_is_long_row : Fun K "is_long_row" "is_long_row" s_is_long_row A.a_is_long_row A.d_is_long_row
  g_is_long_square : mg "is_long_square" = some (.ref A.a_is_long_square)
  f_is_long_square : Fun K "is_long_square" "is_long_square" s_is_long_square A.a_is_long_square A.d_is_long_square
  g_is_long_matrix : mg "is_long_matrix" = some (.ref A.a_is_long_matrix)
  f_is_long_matrix : Fun K "is_long_matrix" "is_long_matrix" s_is_long_matrix A.a_is_long_matrix A.d_is_long_matrix
  g_image : mg "image" = some (.ref A.a_image)
  f_image : Fun K "image" "image" s_image A.a_image A.d_image
  g_pairing_of : mg "pairing_of" = some (.ref A.a_pairing_of)
  f_pairing_of : Fun K "pairing_of" "pairing_of" s_pairing_of A.a_pairing_of A.d_pairing_of
  g_value_at : mg "value_at" = some (.ref A.a_value_at)
  f_value_at : Fun K "value_at" "value_at" s_value_at A.a_value_at A.d_value_at
  g_led_by : mg "led_by" = some (.ref A.a_led_by)
  f_led_by : Fun K "led_by" "led_by" s_led_by A.a_led_by A.d_led_by
  g_moved_by : mg "moved_by" = some (.ref A.a_moved_by)
  f_moved_by : Fun K "moved_by" "moved_by" s_moved_by A.a_moved_by A.d_moved_by
  g_undone : mg "undone" = some (.ref A.a_undone)
  f_undone : Fun K "undone" "undone" s_undone A.a_undone A.d_undone
  g_entries_of : mg "entries_of" = some (.ref A.a_entries_of)
  f_entries_of : Fun K "entries_of" "entries_of" s_entries_of A.a_entries_of A.d_entries_of
  g_made_together : mg "made_together" = some (.ref A.a_made_together)
  f_made_together : Fun K "made_together" "made_together" s_made_together A.a_made_together A.d_made_together
  g_size_of : mg "size_of" = some (.ref A.a_size_of)
  f_size_of : Fun K "size_of" "size_of" s_size_of A.a_size_of A.d_size_of
  g_fits_row : mg "fits_row" = some (.ref A.a_fits_row)
  f_fits_row : Fun K "fits_row" "fits_row" s_fits_row A.a_fits_row A.d_fits_row
  g_fits_square : mg "fits_square" = some (.ref A.a_fits_square)
  f_fits_square : Fun K "fits_square" "fits_square" s_fits_square A.a_fits_square A.d_fits_square
  g_fits_table : mg "fits_table" = some (.ref A.a_fits_table)
  f_fits_table : Fun K "fits_table" "fits_table" s_fits_table A.a_fits_table A.d_fits_table
  g_fits_matrix : mg "fits_matrix" = some (.ref A.a_fits_matrix)
  f_fits_matrix : Fun K "fits_matrix" "fits_matrix" s_fits_matrix A.a_fits_matrix A.d_fits_matrix
  g_need_row : mg "need_row" = some (.ref A.a_need_row)
  f_need_row : Fun K "need_row" "need_row" s_need_row A.a_need_row A.d_need_row
  g_need_table : mg "need_table" = some (.ref A.a_need_table)
  f_need_table : Fun K "need_table" "need_table" s_need_table A.a_need_table A.d_need_table
  g_need_matrix : mg "need_matrix" = some (.ref A.a_need_matrix)
  f_need_matrix : Fun K "need_matrix" "need_matrix" s_need_matrix A.a_need_matrix A.d_need_matrix
  g_matrix_product : mg "matrix_product" = some (.ref A.a_matrix_product)
  f_matrix_product : Fun K "matrix_product" "matrix_product" s_matrix_product A.a_matrix_product A.d_matrix_product
  g_matrix_back : mg "matrix_back" = some (.ref A.a_matrix_back)
  f_matrix_back : Fun K "matrix_back" "matrix_back" s_matrix_back A.a_matrix_back A.d_matrix_back
  g_square : mg "square" = some (.ref A.a_square)
  f_square : Fun K "square" "square" s_square A.a_square A.d_square
  g_led_row : mg "led_row" = some (.ref A.a_led_row)
  f_led_row : Fun K "led_row" "led_row" s_led_row A.a_led_row A.d_led_row
  g_led_table : mg "led_table" = some (.ref A.a_led_table)
  f_led_table : Fun K "led_table" "led_table" s_led_table A.a_led_table A.d_led_table
  g_moved_table : mg "moved_table" = some (.ref A.a_moved_table)
  f_moved_table : Fun K "moved_table" "moved_table" s_moved_table A.a_moved_table A.d_moved_table
  g_table_value : mg "table_value" = some (.ref A.a_table_value)
  f_table_value : Fun K "table_value" "table_value" s_table_value A.a_table_value A.d_table_value
  g_together : mg "together" = some (.ref A.a_together)
  f_together : Fun K "together" "together" s_together A.a_together A.d_together
  g__law_bag : mg "_law_bag" = some (.ref A.a__law_bag)
  f__law_bag : Fun K "_law_bag" "_law_bag" s__law_bag A.a__law_bag A.d__law_bag
  g__law_grab : mg "_law_grab" = some (.ref A.a__law_grab)
  f__law_grab : Fun K "_law_grab" "_law_grab" s__law_grab A.a__law_grab A.d__law_grab
  g__law_one_of : mg "_law_one_of" = some (.ref A.a__law_one_of)
  f__law_one_of : Fun K "_law_one_of" "_law_one_of" s__law_one_of A.a__law_one_of A.d__law_one_of
  g__law_mixed : mg "_law_mixed" = some (.ref A.a__law_mixed)
  f__law_mixed : Fun K "_law_mixed" "_law_mixed" s__law_mixed A.a__law_mixed A.d__law_mixed
  g__law_size : mg "_law_size" = some (.ref A.a__law_size)
  f__law_size : Fun K "_law_size" "_law_size" s__law_size A.a__law_size A.d__law_size
  g__law_number : mg "_law_number" = some (.ref A.a__law_number)
  f__law_number : Fun K "_law_number" "_law_number" s__law_number A.a__law_number A.d__law_number
  g__law_some_row : mg "_law_some_row" = some (.ref A.a__law_some_row)
  f__law_some_row : Fun K "_law_some_row" "_law_some_row" s__law_some_row A.a__law_some_row A.d__law_some_row
  g__law_some_table : mg "_law_some_table" = some (.ref A.a__law_some_table)
  f__law_some_table : Fun K "_law_some_table" "_law_some_table" s__law_some_table A.a__law_some_table A.d__law_some_table
  g__law_matrix : mg "_law_matrix" = some (.ref A.a__law_matrix)
  f__law_matrix : Fun K "_law_matrix" "_law_matrix" s__law_matrix A.a__law_matrix A.d__law_matrix
  g__law_names : mg "_law_names" = some (.ref A.a__law_names)
  f__law_names : Fun K "_law_names" "_law_names" s__law_names A.a__law_names A.d__law_names
  g__law_told : mg "_law_told" = some (.ref A.a__law_told)
  f__law_told : Fun K "_law_told" "_law_told" s__law_told A.a__law_told A.d__law_told
  g__law_plain_rays : mg "_law_plain_rays" = some (.ref A.a__law_plain_rays)
  f__law_plain_rays : Fun K "_law_plain_rays" "_law_plain_rays" s__law_plain_rays A.a__law_plain_rays A.d__law_plain_rays
  g__law_summed : mg "_law_summed" = some (.ref A.a__law_summed)
  f__law_summed : Fun K "_law_summed" "_law_summed" s__law_summed A.a__law_summed A.d__law_summed
  g__law_begun : mg "_law_begun" = some (.ref A.a__law_begun)
  f__law_begun : Fun K "_law_begun" "_law_begun" s__law_begun A.a__law_begun A.d__law_begun
  g__law_positive : mg "_law_positive" = some (.ref A.a__law_positive)
  f__law_positive : Fun K "_law_positive" "_law_positive" s__law_positive A.a__law_positive A.d__law_positive
  g__law_wide : mg "_law_wide" = some (.ref A.a__law_wide)
  f__law_wide : Fun K "_law_wide" "_law_wide" s__law_wide A.a__law_wide A.d__law_wide
  g__law_pairing : mg "_law_pairing" = some (.ref A.a__law_pairing)
  f__law_pairing : Fun K "_law_pairing" "_law_pairing" s__law_pairing A.a__law_pairing A.d__law_pairing
  g__law_value : mg "_law_value" = some (.ref A.a__law_value)
  f__law_value : Fun K "_law_value" "_law_value" s__law_value A.a__law_value A.d__law_value
  g__law_turned : mg "_law_turned" = some (.ref A.a__law_turned)
  f__law_turned : Fun K "_law_turned" "_law_turned" s__law_turned A.a__law_turned A.d__law_turned
  g__law_row_led : mg "_law_row_led" = some (.ref A.a__law_row_led)
  f__law_row_led : Fun K "_law_row_led" "_law_row_led" s__law_row_led A.a__law_row_led A.d__law_row_led
  g__law_product : mg "_law_product" = some (.ref A.a__law_product)
  f__law_product : Fun K "_law_product" "_law_product" s__law_product A.a__law_product A.d__law_product
  g__law_led : mg "_law_led" = some (.ref A.a__law_led)
  f__law_led : Fun K "_law_led" "_law_led" s__law_led A.a__law_led A.d__law_led
  g__law_moved : mg "_law_moved" = some (.ref A.a__law_moved)
  f__law_moved : Fun K "_law_moved" "_law_moved" s__law_moved A.a__law_moved A.d__law_moved
  g__law_determinant : mg "_law_determinant" = some (.ref A.a__law_determinant)
  f__law_determinant : Fun K "_law_determinant" "_law_determinant" s__law_determinant A.a__law_determinant A.d__law_determinant
  g__law_adjoint : mg "_law_adjoint" = some (.ref A.a__law_adjoint)
  f__law_adjoint : Fun K "_law_adjoint" "_law_adjoint" s__law_adjoint A.a__law_adjoint A.d__law_adjoint
  g__law_together : mg "_law_together" = some (.ref A.a__law_together)
  f__law_together : Fun K "_law_together" "_law_together" s__law_together A.a__law_together A.d__law_together
  g__law_plus : mg "_law_plus" = some (.ref A.a__law_plus)
  f__law_plus : Fun K "_law_plus" "_law_plus" s__law_plus A.a__law_plus A.d__law_plus
  g__law_is_positive : mg "_law_is_positive" = some (.ref A.a__law_is_positive)
  f__law_is_positive : Fun K "_law_is_positive" "_law_is_positive" s__law_is_positive A.a__law_is_positive A.d__law_is_positive
  g__law_led_right : mg "_law_led_right" = some (.ref A.a__law_led_right)
  f__law_led_right : Fun K "_law_led_right" "_law_led_right" s__law_led_right A.a__law_led_right A.d__law_led_right
  g__law_moved_right : mg "_law_moved_right" = some (.ref A.a__law_moved_right)
  f__law_moved_right : Fun K "_law_moved_right" "_law_moved_right" s__law_moved_right A.a__law_moved_right A.d__law_moved_right
  g__law_both_right : mg "_law_both_right" = some (.ref A.a__law_both_right)
  f__law_both_right : Fun K "_law_both_right" "_law_both_right" s__law_both_right A.a__law_both_right A.d__law_both_right
  g_law : mg "law" = some (.ref A.a_law)
  f_law : Fun K "law" "law" s_law A.a_law A.d_law
  n_abs : mg "abs" = none
  n_all : mg "all" = none
  n_bool : mg "bool" = none
  n_enumerate : mg "enumerate" = none
  n_int : mg "int" = none
  n_isinstance : mg "isinstance" = none
  n_len : mg "len" = none
  n_list : mg "list" = none
  n_max : mg "max" = none
  n_min : mg "min" = none
  n_range : mg "range" = none
  n_str : mg "str" = none
  n_sum : mg "sum" = none
  n_tuple : mg "tuple" = none
  n_zip : mg "zip" = none
  c_TOO_LONG : mg "TOO_LONG" = some A.u_TOO_LONG
  v_TOO_LONG : RelV (.int (10 ^ 60)) A.u_TOO_LONG
  c_SIZES : mg "SIZES" = some (.ref A.t_SIZES)
  v_SIZES : ∀ H, SqT K H A.t_SIZES [.int 2, .int 3, .int 4]
section
variable {K : PySem.W.Frag} {mg : Str → Option Value} {A : Adr}
theorem b_is_whole (T : Txt K mg A) : Binds K A.d_is_whole ["value"] [] := T.f_is_whole.binds fun _ _ _ _ _ _ us hl => match us, hl with | [_], _ => rfl
theorem b_is_integer (T : Txt K mg A) : Binds K A.d_is_integer ["value"] [] := T.f_is_integer.binds fun _ _ _ _ _ _ us hl => match us, hl with | [_], _ => rfl
theorem b_are_integers (T : Txt K mg A) : Binds K A.d_are_integers ["value", "least", "most"] [] := T.f_are_integers.binds fun _ _ _ _ _ _ us hl => match us, hl with | [_, _, _], _ => rfl
theorem b_dot (T : Txt K mg A) : Binds K A.d_dot ["one", "other"] [] := T.f_dot.binds fun _ _ _ _ _ _ us hl => match us, hl with | [_, _], _ => rfl
theorem b_turned (T : Txt K mg A) : Binds K A.d_turned ["lines"] [] := T.f_turned.binds fun _ _ _ _ _ _ us hl => match us, hl with | [_], _ => rfl
theorem b_multiplied (T : Txt K mg A) : Binds K A.d_multiplied ["one", "other"] [] := T.f_multiplied.binds fun _ _ _ _ _ _ us hl => match us, hl with | [_, _], _ => rfl
theorem b_first_other_than_0 (T : Txt K mg A) : Binds K A.d_first_other_than_0 ["numbers"] [] := T.f_first_other_than_0.binds fun _ _ _ _ _ _ us hl => match us, hl with | [_], _ => rfl
theorem b_without (T : Txt K mg A) : Binds K A.d_without ["things", "index"] [] := T.f_without.binds fun _ _ _ _ _ _ us hl => match us, hl with | [_, _], _ => rfl
theorem b_cleared_line (T : Txt K mg A) : Binds K A.d_cleared_line ["pivot", "line", "column", "scale"] [] := T.f_cleared_line.binds fun _ _ _ _ _ _ us hl => match us, hl with | [_, _, _, _], _ => rfl
theorem b_determinant_of_two (T : Txt K mg A) : Binds K A.d_determinant_of_two ["lines"] [] := T.f_determinant_of_two.binds fun _ _ _ _ _ _ us hl => match us, hl with | [_], _ => rfl
theorem b_determinant_of_three (T : Txt K mg A) : Binds K A.d_determinant_of_three ["lines"] [] := T.f_determinant_of_three.binds fun _ _ _ _ _ _ us hl => match us, hl with | [_], _ => rfl
theorem b_determinant_of_four (T : Txt K mg A) : Binds K A.d_determinant_of_four ["lines"] [] := T.f_determinant_of_four.binds fun _ _ _ _ _ _ us hl => match us, hl with | [_], _ => rfl
theorem b_determinant_of (T : Txt K mg A) : Binds K A.d_determinant_of ["lines"] [] := T.f_determinant_of.binds fun _ _ _ _ _ _ us hl => match us, hl with | [_], _ => rfl
theorem b_eliminated_determinant (T : Txt K mg A) : Binds K A.d_eliminated_determinant ["lines"] [] := T.f_eliminated_determinant.binds fun _ _ _ _ _ _ us hl => match us, hl with | [_], _ => rfl
theorem b_minor (T : Txt K mg A) : Binds K A.d_minor ["lines", "row", "column"] [] := T.f_minor.binds fun _ _ _ _ _ _ us hl => match us, hl with | [_, _, _], _ => rfl
theorem b_adjugate (T : Txt K mg A) : Binds K A.d_adjugate ["lines"] [] := T.f_adjugate.binds fun _ _ _ _ _ _ us hl => match us, hl with | [_], _ => rfl
theorem b_is_long_row (T : Txt K mg A) : Binds K A.d_is_long_row ["size", "value"] [] := T.f_is_long_row.binds fun _ _ _ _ _ _ us hl => match us, hl with | [_, _], _ => rfl
theorem b_is_long_square (T : Txt K mg A) : Binds K A.d_is_long_square ["size", "value"] [] := T.f_is_long_square.binds fun _ _ _ _ _ _ us hl => match us, hl with | [_, _], _ => rfl
theorem b_is_long_matrix (T : Txt K mg A) : Binds K A.d_is_long_matrix ["size", "value"] [] := T.f_is_long_matrix.binds fun _ _ _ _ _ _ us hl => match us, hl with | [_, _], _ => rfl
theorem b_image (T : Txt K mg A) : Binds K A.d_image ["matrix", "row"] [] := T.f_image.binds fun _ _ _ _ _ _ us hl => match us, hl with | [_, _], _ => rfl
theorem b_pairing_of (T : Txt K mg A) : Binds K A.d_pairing_of ["table", "one", "other"] [] := T.f_pairing_of.binds fun _ _ _ _ _ _ us hl => match us, hl with | [_, _, _], _ => rfl
theorem b_value_at (T : Txt K mg A) : Binds K A.d_value_at ["table", "row"] [] := T.f_value_at.binds fun _ _ _ _ _ _ us hl => match us, hl with | [_, _], _ => rfl
theorem b_led_by (T : Txt K mg A) : Binds K A.d_led_by ["table", "matrix"] [] := T.f_led_by.binds fun _ _ _ _ _ _ us hl => match us, hl with | [_, _], _ => rfl
theorem b_moved_by (T : Txt K mg A) : Binds K A.d_moved_by ["table", "matrix"] [] := T.f_moved_by.binds fun _ _ _ _ _ _ us hl => match us, hl with | [_, _], _ => rfl
theorem b_undone (T : Txt K mg A) : Binds K A.d_undone ["matrix"] [] := T.f_undone.binds fun _ _ _ _ _ _ us hl => match us, hl with | [_], _ => rfl
theorem b_entries_of (T : Txt K mg A) : Binds K A.d_entries_of ["table"] [] := T.f_entries_of.binds fun _ _ _ _ _ _ us hl => match us, hl with | [_], _ => rfl
theorem b_made_together (T : Txt K mg A) : Binds K A.d_made_together ["one", "other"] [] := T.f_made_together.binds fun _ _ _ _ _ _ us hl => match us, hl with | [_, _], _ => rfl
theorem b_size_of (T : Txt K mg A) : Binds K A.d_size_of ["value"] [] := T.f_size_of.binds fun _ _ _ _ _ _ us hl => match us, hl with | [_], _ => rfl
theorem b_fits_row (T : Txt K mg A) : Binds K A.d_fits_row ["size", "value"] [] := T.f_fits_row.binds fun _ _ _ _ _ _ us hl => match us, hl with | [_, _], _ => rfl
theorem b_fits_square (T : Txt K mg A) : Binds K A.d_fits_square ["size", "value"] [] := T.f_fits_square.binds fun _ _ _ _ _ _ us hl => match us, hl with | [_, _], _ => rfl
theorem b_fits_table (T : Txt K mg A) : Binds K A.d_fits_table ["size", "value"] [] := T.f_fits_table.binds fun _ _ _ _ _ _ us hl => match us, hl with | [_, _], _ => rfl
theorem b_fits_matrix (T : Txt K mg A) : Binds K A.d_fits_matrix ["size", "value"] [] := T.f_fits_matrix.binds fun _ _ _ _ _ _ us hl => match us, hl with | [_, _], _ => rfl
theorem b_need_row (T : Txt K mg A) : Binds K A.d_need_row ["size", "row"] [] := T.f_need_row.binds fun _ _ _ _ _ _ us hl => match us, hl with | [_, _], _ => rfl
theorem b_need_table (T : Txt K mg A) : Binds K A.d_need_table ["size", "table"] [] := T.f_need_table.binds fun _ _ _ _ _ _ us hl => match us, hl with | [_, _], _ => rfl
theorem b_need_matrix (T : Txt K mg A) : Binds K A.d_need_matrix ["size", "matrix"] [] := T.f_need_matrix.binds fun _ _ _ _ _ _ us hl => match us, hl with | [_, _], _ => rfl
theorem b_matrix_product (T : Txt K mg A) : Binds K A.d_matrix_product ["one", "other"] [] := T.f_matrix_product.binds fun _ _ _ _ _ _ us hl => match us, hl with | [_, _], _ => rfl
theorem b_matrix_back (T : Txt K mg A) : Binds K A.d_matrix_back ["matrix"] [] := T.f_matrix_back.binds fun _ _ _ _ _ _ us hl => match us, hl with | [_], _ => rfl
theorem b_square (T : Txt K mg A) : Binds K A.d_square ["row"] [] := T.f_square.binds fun _ _ _ _ _ _ us hl => match us, hl with | [_], _ => rfl
theorem b_led_row (T : Txt K mg A) : Binds K A.d_led_row ["matrix", "row"] [] := T.f_led_row.binds fun _ _ _ _ _ _ us hl => match us, hl with | [_, _], _ => rfl
theorem b_led_table (T : Txt K mg A) : Binds K A.d_led_table ["table", "matrix"] [] := T.f_led_table.binds fun _ _ _ _ _ _ us hl => match us, hl with | [_, _], _ => rfl
theorem b_moved_table (T : Txt K mg A) : Binds K A.d_moved_table ["table", "matrix"] [] := T.f_moved_table.binds fun _ _ _ _ _ _ us hl => match us, hl with | [_, _], _ => rfl
theorem b_table_value (T : Txt K mg A) : Binds K A.d_table_value ["table", "row"] [] := T.f_table_value.binds fun _ _ _ _ _ _ us hl => match us, hl with | [_, _], _ => rfl
theorem b_together (T : Txt K mg A) : Binds K A.d_together ["one", "other"] [] := T.f_together.binds fun _ _ _ _ _ _ us hl => match us, hl with | [_, _], _ => rfl
theorem b__law_bag (T : Txt K mg A) : Binds K A.d__law_bag ["_law_script", "_law_spot"] [] := T.f__law_bag.binds fun _ _ _ _ _ _ us hl => match us, hl with | [_, _], _ => rfl
theorem b__law_grab (T : Txt K mg A) : Binds K A.d__law_grab ["_law_bag_here", "_law_total"] [] := T.f__law_grab.binds fun _ _ _ _ _ _ us hl => match us, hl with | [_, _], _ => rfl
theorem b__law_one_of (T : Txt K mg A) : Binds K A.d__law_one_of ["_law_bag_here", "_law_items"] [] := T.f__law_one_of.binds fun _ _ _ _ _ _ us hl => match us, hl with | [_, _], _ => rfl
theorem b__law_mixed (T : Txt K mg A) : Binds K A.d__law_mixed ["_law_bag_here", "_law_items"] [] := T.f__law_mixed.binds fun _ _ _ _ _ _ us hl => match us, hl with | [_, _], _ => rfl
theorem b__law_size (T : Txt K mg A) : Binds K A.d__law_size ["_law_bag_here"] [] := T.f__law_size.binds fun _ _ _ _ _ _ us hl => match us, hl with | [_], _ => rfl
theorem b__law_number (T : Txt K mg A) : Binds K A.d__law_number ["_law_bag_here", "_law_spread"] [] := T.f__law_number.binds fun _ _ _ _ _ _ us hl => match us, hl with | [_, _], _ => rfl
theorem b__law_some_row (T : Txt K mg A) : Binds K A.d__law_some_row ["_law_bag_here", "_law_size_here", "_law_spread"] [] := T.f__law_some_row.binds fun _ _ _ _ _ _ us hl => match us, hl with | [_, _, _], _ => rfl
theorem b__law_some_table (T : Txt K mg A) : Binds K A.d__law_some_table ["_law_bag_here", "_law_size_here", "_law_spread"] [] := T.f__law_some_table.binds fun _ _ _ _ _ _ us hl => match us, hl with | [_, _, _], _ => rfl
theorem b__law_matrix (T : Txt K mg A) : Binds K A.d__law_matrix ["_law_bag_here", "_law_size_here", "_law_most"] [] := T.f__law_matrix.binds fun _ _ _ _ _ _ us hl => match us, hl with | [_, _, _], _ => rfl
theorem b__law_names (T : Txt K mg A) : Binds K A.d__law_names ["_law_size_here"] [] := T.f__law_names.binds fun _ _ _ _ _ _ us hl => match us, hl with | [_], _ => rfl
theorem b__law_told (T : Txt K mg A) : Binds K A.d__law_told ["_law_name"] [] := T.f__law_told.binds fun _ _ _ _ _ _ us hl => match us, hl with | [_], _ => rfl
theorem b__law_plain_rays (T : Txt K mg A) : Binds K A.d__law_plain_rays ["_law_size_here"] [] := T.f__law_plain_rays.binds fun _ _ _ _ _ _ us hl => match us, hl with | [_], _ => rfl
theorem b__law_summed (T : Txt K mg A) : Binds K A.d__law_summed ["_law_size_here", "_law_rows", "_law_weights"] [] := T.f__law_summed.binds fun _ _ _ _ _ _ us hl => match us, hl with | [_, _, _], _ => rfl
theorem b__law_begun (T : Txt K mg A) : Binds K A.d__law_begun ["_law_bag_here", "_law_size_here"] [] := T.f__law_begun.binds fun _ _ _ _ _ _ us hl => match us, hl with | [_, _], _ => rfl
theorem b__law_positive (T : Txt K mg A) : Binds K A.d__law_positive ["_law_bag_here", "_law_size_here"] [] := T.f__law_positive.binds fun _ _ _ _ _ _ us hl => match us, hl with | [_, _], _ => rfl
theorem b__law_wide (T : Txt K mg A) : Binds K A.d__law_wide ["_law_bag_here", "_law_size_here"] [] := T.f__law_wide.binds fun _ _ _ _ _ _ us hl => match us, hl with | [_, _], _ => rfl
theorem b__law_pairing (T : Txt K mg A) : Binds K A.d__law_pairing ["_law_table", "_law_one", "_law_other"] [] := T.f__law_pairing.binds fun _ _ _ _ _ _ us hl => match us, hl with | [_, _, _], _ => rfl
theorem b__law_value (T : Txt K mg A) : Binds K A.d__law_value ["_law_table", "_law_row"] [] := T.f__law_value.binds fun _ _ _ _ _ _ us hl => match us, hl with | [_, _], _ => rfl
theorem b__law_turned (T : Txt K mg A) : Binds K A.d__law_turned ["_law_rows"] [] := T.f__law_turned.binds fun _ _ _ _ _ _ us hl => match us, hl with | [_], _ => rfl
theorem b__law_row_led (T : Txt K mg A) : Binds K A.d__law_row_led ["_law_matrix_here", "_law_row"] [] := T.f__law_row_led.binds fun _ _ _ _ _ _ us hl => match us, hl with | [_, _], _ => rfl
theorem b__law_product (T : Txt K mg A) : Binds K A.d__law_product ["_law_one", "_law_other"] [] := T.f__law_product.binds fun _ _ _ _ _ _ us hl => match us, hl with | [_, _], _ => rfl
theorem b__law_led (T : Txt K mg A) : Binds K A.d__law_led ["_law_table", "_law_matrix_here"] [] := T.f__law_led.binds fun _ _ _ _ _ _ us hl => match us, hl with | [_, _], _ => rfl
theorem b__law_moved (T : Txt K mg A) : Binds K A.d__law_moved ["_law_table", "_law_matrix_here"] [] := T.f__law_moved.binds fun _ _ _ _ _ _ us hl => match us, hl with | [_, _], _ => rfl
theorem b__law_determinant (T : Txt K mg A) : Binds K A.d__law_determinant ["_law_rows"] [] := T.f__law_determinant.binds fun _ _ _ _ _ _ us hl => match us, hl with | [_], _ => rfl
theorem b__law_adjoint (T : Txt K mg A) : Binds K A.d__law_adjoint ["_law_table"] [] := T.f__law_adjoint.binds fun _ _ _ _ _ _ us hl => match us, hl with | [_], _ => rfl
theorem b__law_together (T : Txt K mg A) : Binds K A.d__law_together ["_law_one", "_law_other"] [] := T.f__law_together.binds fun _ _ _ _ _ _ us hl => match us, hl with | [_, _], _ => rfl
theorem b__law_plus (T : Txt K mg A) : Binds K A.d__law_plus ["_law_one", "_law_other", "_law_factor"] [] := T.f__law_plus.binds fun _ _ _ _ _ _ us hl => match us, hl with | [_, _, _], _ => rfl
theorem b__law_is_positive (T : Txt K mg A) : Binds K A.d__law_is_positive ["_law_table"] [] := T.f__law_is_positive.binds fun _ _ _ _ _ _ us hl => match us, hl with | [_], _ => rfl
theorem b__law_led_right (T : Txt K mg A) : Binds K A.d__law_led_right ["_law_size_here", "_law_table", "_law_matrix_here", "_law_row"] [] := T.f__law_led_right.binds fun _ _ _ _ _ _ us hl => match us, hl with | [_, _, _, _], _ => rfl
theorem b__law_moved_right (T : Txt K mg A) : Binds K A.d__law_moved_right ["_law_table", "_law_other", "_law_matrix_here", "_law_row"] [] := T.f__law_moved_right.binds fun _ _ _ _ _ _ us hl => match us, hl with | [_, _, _, _], _ => rfl
theorem b__law_both_right (T : Txt K mg A) : Binds K A.d__law_both_right ["_law_table", "_law_one", "_law_other"] [] := T.f__law_both_right.binds fun _ _ _ _ _ _ us hl => match us, hl with | [_, _, _], _ => rfl
theorem b_law (T : Txt K mg A) : Binds K A.d_law ["_law_script"] [] := T.f_law.binds fun _ _ _ _ _ _ us hl => match us, hl with | [_], _ => rfl
end
end K06

set_option maxHeartbeats 400000
namespace K06
open PySem PySem.Spec PyProof.Rows L2 My ZN
section
variable {P : Program} {w : World} {K : PySem.W.Frag} {mg : Str → Option Value} {base : Heap} {A : Adr}
def sp_dot (K : PySem.W.Frag) : Sp := fun vs H Q _ => ∃ k1 k2 a b xs ys, vs = [V.ref a, V.ref b] ∧ SqK k1 K H a (xs.map V.int) ∧ SqK k2 K H b (ys.map V.int) ∧
  (∀ x ∈ xs, Wd x) ∧ (∀ y ∈ ys, Wd y) ∧ xs.length < 100000 ∧ ∀ H', Same H H' → Q (.int (dotL xs ys)) H'
theorem ok_dot (T : Txt K mg A) : FnOk P w K mg base CX0 1 A.a_dot A.d_dot ["one", "other"] (sp_dot K) := by
  refine T.f_dot.ok sc_dot (fun vs H Q E h => ?_) (fun cdv B out t H vs Q E hr h => ?_)
  · obtain ⟨k1, k2, a, b, xs, ys, rfl, _⟩ := h
    rfl
  · obtain ⟨k1, k2, a, b, xs, ys, rfl, ha, hb, wx, wy, hz, q⟩ := h
    refine ⟨_, (pss_one (ps_ret (pe_callB (cr_sum rfl) (by rfl) T.n_sum (by decide +kernel) (pa_cons (pe_lc (own := [("first", 2), ("second", 3)]) (g := (gTup K 2 (gCons (gName 2) (gCons (gName 3) gNil)))) (tt := tYes)  rfl sc_dot.nd (ZN.pi_zip2 (by rfl) T.n_zip (pa_cons (pv 0) (pa_cons (pv 1) pa_nil))) (blkOk_by (own := [("first", 2), ("second", 3)]) (N := names_dot) (sc := defScope s_dot) (by decide +kernel)) (fun _ _ _ _ _ => (pg_tup (by rfl) (pgs_cons (pg_name (i := 2) sc_dot.nd rfl (Or.inl rfl)) (pgs_cons (pg_name (i := 3) sc_dot.nd rfl (Or.inl rfl)) pgs_nil)))) (fun _ _ _ _ _ => pts_nil) (fun _ _ _ _ _ => by apply My.pe_eq; (case h => exact (pe_op op_mulW (pv 2) (pv 3))); all_goals (first | exact rfl | (dsimp only [L2.Cx.blk, L2.Cx.nox, L2.cxOf]; done) | (dsimp only [L2.Cx.blk, L2.Cx.nox, L2.cxOf]; exact rfl)))) pa_nil)))), ?_⟩
    dsimp only [tRet, tCB, tCons]
    refine comp_pair (walk_zip2 (k1 := k1) (k2 := k2) (a := a) (b := b) rfl) (fun k => .int (xs.getD k 0 * ys.getD k 0)) (by simp only [List.length_map]; omega)
      (fun H' e => ⟨same_k e ha, same_k e hb⟩) (fun R r => ⟨_, rfl, _, rfl, k1, k2, a, b, _, _, rfl, ha, hb, r⟩) (fun x y => rfl) ?_ ?_
    · intro k x y D acc H1 A1 hk e1 hD hL hx hy hA
      have hk1 : k < xs.length := by simp only [List.length_map] at hk; omega
      have hk2 : k < ys.length := by simp only [List.length_map] at hk; omega
      obtain rfl : V.int xs[k] = x := by simpa [hk1] using hx
      obtain rfl : V.int ys[k] = y := by simpa [hk2] using hy
      refine ⟨_, rfl, _, rfl, _, _, rfl, rfl, Wd.mul (wx _ (List.getElem_mem hk1)) (wy _ (List.getElem_mem hk2)), hA _ _ (Same.refl _) fun u => ?_⟩
      have e : xs[k] * ys[k] = xs.getD k 0 * ys.getD k 0 := by simp [hk1, hk2]
      rw [← e]
      exact .int _
    · intro D zs H' e hD hL hj
      simp only [List.length_map] at hj
      rw [zip_data] at hj
      rw [jd_ints_inv _ _ hj] at hL
      exact ⟨D, _, rfl, .inl (.inl hL), q H' e⟩
end
end K06

set_option maxHeartbeats 400000
namespace K06
open PySem PySem.Spec PyProof.Rows L2 My ZN
section
variable {P : Program} {w : World} {K : PySem.W.Frag} {mg : Str → Option Value} {base : Heap} {A : Adr}
def sp_turned (K : PySem.W.Frag) : Sp := fun vs H Q _ => ∃ k v M W, vs = [v] ∧ MtAt K H k v M ∧ M ≠ [] ∧ 0 < W ∧ (∀ r ∈ M, r.length = W) ∧ ∀ v' H', Same H H' → MtAt K H' true v' (trM W M) → Q v' H'
theorem ok_turned (T : Txt K mg A) : FnOk P w K mg base CX0 1 A.a_turned A.d_turned ["lines"] (sp_turned K) := by
  refine T.f_turned.ok sc_turned (fun vs H Q E h => ?_) (fun cdv B out t H vs Q E hr h => ?_)
  · obtain ⟨k, v, M, W, rfl, _⟩ := h
    rfl
  · obtain ⟨k, v, M, W, rfl, hm, hne, hW0, hW, q⟩ := h
    refine ⟨_, (pss_one (ps_ret (ZN.pe_zip rfl (by rfl) T.n_tuple (by rfl) T.n_zip (pv 0)))), ?_⟩
    exact zip_read (fun R r => ⟨_, rfl, r⟩) hm hne hW0 hW q
def sp_multiplied (K : PySem.W.Frag) : Sp := fun vs H Q _ => ∃ k v u M N W, vs = [v, u] ∧ MtAt K H true v M ∧ MtAt K H k u N ∧ N ≠ [] ∧ 0 < W ∧ (∀ r ∈ N, r.length = W) ∧
  (∀ r ∈ M, ∀ x ∈ r, Wd x) ∧ (∀ r ∈ N, ∀ x ∈ r, Wd x) ∧ M.length < 100000 ∧ W < 100000 ∧ (∀ r ∈ M, r.length < 100000) ∧ ∀ v' H', Same H H' → MtAt K H' true v' (mulM W M N) → Q v' H'
theorem ok_multiplied (T : Txt K mg A) : FnOk P w K mg base CX0 2 A.a_multiplied A.d_multiplied ["one", "other"] (sp_multiplied K) := by
  have G_dot : FnOk P w K mg base CX0 1 A.a_dot A.d_dot ["one", "other"] (sp_dot K) := ok_dot T
  have G_turned : FnOk P w K mg base CX0 1 A.a_turned A.d_turned ["lines"] (sp_turned K) := ok_turned T
  refine T.f_multiplied.ok sc_multiplied (fun vs H Q E h => ?_) (fun cdv B out t H vs Q E hr h => ?_)
  · obtain ⟨k, v, u, M, N, W, rfl, _⟩ := h
    rfl
  · obtain ⟨k, v, u, M, N, W, rfl, hM, hN, hne, hW0, hW, wM, wN, zM, zW, zr, q⟩ := h
    refine ⟨_, (pss_cons (ps_set (i := 2) sc_multiplied.nd rfl (Or.inr rfl) (pe_call G_turned (hr.mono (by decide)) (by rfl) T.g_turned T.f_turned.kp (b_turned T) .nil pass0 (pa_cons (pv 1) pa_nil)))
      (pss_one (ps_ret (pe_callTy call_tuple_of (by rfl) T.n_tuple (by decide +kernel) (pa_cons (pe_lc (own := [("line", 4)]) (g := (gName 4)) (tt := tYes)  rfl sc_multiplied.nd (pi_tup (pv 0)) (blkOk_by (own := [("line", 4)]) (N := names_multiplied) (sc := defScope s_multiplied) (by decide +kernel)) (fun _ _ _ _ _ => (pg_name (i := 4) sc_multiplied.nd rfl (Or.inr rfl))) (fun _ _ _ _ _ => pts_nil) (fun _ _ _ _ _ => by apply My.pe_eq; (case h => exact (pe_callTy call_tuple_of (by rfl) T.n_tuple (by decide +kernel) (pa_cons (by exact (pe_lc (own := [("column", 3)]) (g := (gName 3)) (tt := tYes)  rfl sc_multiplied.nd (pi_tup (pv 2)) (by (exact L2.blkOk_by (by kernel_rfl))) (fun _ _ _ _ _ => (pg_name (i := 3) sc_multiplied.nd rfl (Or.inl rfl))) (fun _ _ _ _ _ => pts_nil) (fun _ _ _ _ _ => by apply My.pe_eq; (case h => exact (pe_call G_dot (hr.mono (by decide)) (by rfl) T.g_dot T.f_dot.kp (b_dot T) .nil pass0 (pa_cons (pv 4) (pa_cons (pv 3) pa_nil)))); all_goals (first | exact rfl | (dsimp only [L2.Cx.blk, L2.Cx.nox, L2.cxOf]; done) | (dsimp only [L2.Cx.blk, L2.Cx.nox, L2.cxOf]; exact rfl))))) pa_nil))); all_goals (first | exact rfl | (dsimp only [L2.Cx.blk, L2.Cx.nox, L2.cxOf]; done) | (dsimp only [L2.Cx.blk, L2.Cx.nox, L2.cxOf]; exact rfl)))) pa_nil))))), ?_⟩
    refine ⟨_, rfl, k, _, N, W, rfl, hN, hne, hW0, hW, fun c H1 e1 hc => ?_⟩
    obtain ⟨a, ls, rfl, hsA, hlA, hrA⟩ := hM.sq
    obtain ⟨c0, cs, rfl, hsC, hlC, hrC⟩ := hc.sq
    dsimp only [gName, tRet, tCB, tCons, tNil]
    refine comp_one (K := K) (walk_tup (a := a) (xs := ls)) (fun k => rowD ((trM W N).map fun c => dotL (M.getD k []) c)) (by omega) (fun H' e => same_t (e1.trans e) hsA)
      (fun R r => ⟨_, rfl, a, rfl, ⟨_, same_t e1 hsA⟩, r⟩) (fun x => rfl) ?_ ?_
    · intro k x D acc H2 A1 hk e2 hD hL hx hA
      have hkM : k < M.length := by omega
      obtain ⟨tr, htr, hst⟩ := hrA k M[k] (List.getElem?_eq_getElem hkM)
      obtain rfl : x = .ref tr := by rw [hx] at htr; exact Option.some.inj htr
      have eM : M.getD k [] = M[k] := by simp [hkM]
      rw [eM] at hA
      dsimp only [tCB, tCons, tNil]
      refine comp_one (K := K) (walk_tup (a := c0) (xs := cs)) (fun m => .int (dotL M[k] ((trM W N).getD m []))) (by rw [hlC]; simpa [trM] using zW) (fun H' e => same_t (e2.trans e) hsC)
        (fun R r => ⟨_, rfl, c0, rfl, ⟨_, same_t e2 hsC⟩, r⟩) (fun x => rfl) ?_ ?_
      · intro m y D2 acc2 H3 A2 hm e3 hD2 hL2 hy hA2
        have hmT : m < (trM W N).length := by omega
        obtain ⟨tc, htc, hsc⟩ := hrC m (trM W N)[m] (List.getElem?_eq_getElem hmT)
        obtain rfl : y = .ref tc := by rw [hy] at htc; exact Option.some.inj htc
        have eT : (trM W N).getD m [] = (trM W N)[m] := by simp [hmT]
        rw [eT] at hA2
        refine ⟨_, rfl, _, rfl, true, true, tr, tc, M[k], (trM W N)[m], rfl, same_t (e1.trans (e2.trans e3)) hst, same_t (e2.trans e3) hsc, wM _ (List.getElem_mem hkM), ?_, zr _ (List.getElem_mem hkM), fun H4 e4 => hA2 _ H4 e4 fun u => .int _⟩
        exact trM_all hW wN _ (List.getElem_mem hmT)
      · intro D2 ys H4 e4 hD2 hL2 hj
        rw [range_getD' (fun c => PyData.int (dotL M[k] c)) [] (trM W N) cs.length hlC] at hj
        have hj2 : JdAll K H4 ys (((trM W N).map fun c => dotL M[k] c).map PyData.int) := by simpa [List.map_map, Function.comp_def] using hj
        rw [jd_ints_inv _ _ hj2] at hL2
        refine ⟨D2, _, rfl, .inl ⟨.inl (.inl hL2), fun l hl => hA _ _ (e4.trans (same_new hl)) fun u => row_new (e4 _ _ hL) hl⟩⟩
    · intro D ys H4 e4 hD hL hj
      rw [range_getD' (fun r => rowD ((trM W N).map fun c => dotL r c)) [] M ls.length hlA] at hj
      have hr : RowsAt K H4 ys ((mulM W M N).map irow) := jd_rows (by simpa [mulM, List.map_map, Function.comp_def] using hj)
      refine ⟨D, _, rfl, .inl ⟨.inl (.inl hL), fun l hl => ?_⟩⟩
      exact q _ _ (e1.trans (e4.trans (same_new hl))) ⟨l, ys, rfl, .inl (.inl upd_same), rows_mono (same_new hl) hr⟩
end
end K06

set_option maxHeartbeats 400000
namespace K06
open PySem PySem.Spec PyProof.Rows L2 My ZN
section
variable {P : Program} {w : World} {K : PySem.W.Frag} {mg : Str → Option Value} {base : Heap} {A : Adr}
def sp_image (K : PySem.W.Frag) : Sp := fun vs H Q _ => ∃ v u M k r, vs = [v, u] ∧ MtAt K H true v M ∧ RwAt K H k u r ∧ AllW M ∧ (∀ x ∈ r, Wd x) ∧ M.length < 100000 ∧ (∀ l ∈ M, l.length < 100000) ∧
  ∀ v' H', Same H H' → RwAt K H' true v' (imgL M r) → Q v' H'
theorem ok_image (T : Txt K mg A) : FnOk P w K mg base CX0 2 A.a_image A.d_image ["matrix", "row"] (sp_image K) := by
  have G_dot : FnOk P w K mg base CX0 1 A.a_dot A.d_dot ["one", "other"] (sp_dot K) := ok_dot T
  refine T.f_image.ok sc_image (fun vs H Q E h => ?_) (fun cdv B out t H vs Q E hr h => ?_)
  · obtain ⟨v, u, M, k, r, rfl, _⟩ := h
    rfl
  · obtain ⟨v, u, M, k, r, rfl, hM, ⟨b, rfl, hb⟩, wM, wr, zM, zr, q⟩ := h
    refine ⟨_, (pss_one (ps_ret (pe_callTy call_tuple_of (by rfl) T.n_tuple (by decide +kernel) (pa_cons (pe_lc (own := [("line", 2)]) (g := (gName 2)) (tt := tYes)  rfl sc_image.nd (pi_tup (pv 0)) (blkOk_by (own := [("line", 2)]) (N := names_image) (sc := defScope s_image) (by decide +kernel)) (fun _ _ _ _ _ => (pg_name (i := 2) sc_image.nd rfl (Or.inl rfl))) (fun _ _ _ _ _ => pts_nil) (fun _ _ _ _ _ => by apply My.pe_eq; (case h => exact (pe_call G_dot (hr.mono (by decide)) (by rfl) T.g_dot T.f_dot.kp (b_dot T) .nil pass0 (pa_cons (pv 2) (pa_cons (pv 1) pa_nil)))); all_goals (first | exact rfl | (dsimp only [L2.Cx.blk, L2.Cx.nox, L2.cxOf]; done) | (dsimp only [L2.Cx.blk, L2.Cx.nox, L2.cxOf]; exact rfl)))) pa_nil)))), ?_⟩
    obtain ⟨a, ls, rfl, hsA, hlA, hrA⟩ := hM.sq
    dsimp only [tRet, tCB, tCons, tNil]
    refine comp_one (K := K) (walk_tup (a := a) (xs := ls)) (fun k => .int (dotL (M.getD k []) r)) (by omega) (fun H' e => same_t e hsA) (fun R r => ⟨_, rfl, a, rfl, ⟨_, hsA⟩, r⟩) (fun x => rfl) ?_ ?_
    · intro m x D acc H2 A1 hk e2 hD hL hx hA
      have hkM : m < M.length := by omega
      obtain ⟨tr, htr, hst⟩ := hrA m M[m] (List.getElem?_eq_getElem hkM)
      obtain rfl : x = .ref tr := by rw [hx] at htr; exact Option.some.inj htr
      have eM : M.getD m [] = M[m] := by simp [hkM]
      rw [eM] at hA
      exact ⟨_, rfl, _, rfl, true, k, tr, b, M[m], r, rfl, same_t e2 hst, same_k e2 hb, wM _ (List.getElem_mem hkM), wr, zr _ (List.getElem_mem hkM), fun H4 e4 => hA _ H4 e4 fun u => .int _⟩
    · intro D ys H4 e4 hD hL hj
      rw [range_getD' (fun l => PyData.int (dotL l r)) [] M ls.length hlA] at hj
      have hj2 : JdAll K H4 ys ((imgL M r).map PyData.int) := by simpa [imgL, List.map_map, Function.comp_def] using hj
      rw [jd_ints_inv _ _ hj2] at hL
      exact ⟨D, _, rfl, .inl ⟨.inl (.inl hL), fun l hl => q _ _ (e4.trans (same_new hl)) ⟨l, rfl, .inl (.inl upd_same)⟩⟩⟩
def sp_pairing_of (K : PySem.W.Frag) : Sp := fun vs H Q _ => ∃ v u x M r s, vs = [v, u, x] ∧ MtAt K H true v M ∧ RwAt K H true u r ∧ RwAt K H true x s ∧ AllW M ∧ (∀ x ∈ r, Wd x) ∧ (∀ x ∈ s, Wd x) ∧ (∀ x ∈ imgL M r, Wd x) ∧ M.length < 100000 ∧ (∀ l ∈ M, l.length < 100000) ∧
  ∀ H', Same H H' → Q (.int (dotL (imgL M r) s)) H'
theorem ok_pairing_of (T : Txt K mg A) : FnOk P w K mg base CX0 3 A.a_pairing_of A.d_pairing_of ["table", "one", "other"] (sp_pairing_of K) := by
  have G_dot : FnOk P w K mg base CX0 1 A.a_dot A.d_dot ["one", "other"] (sp_dot K) := ok_dot T
  have G_image : FnOk P w K mg base CX0 2 A.a_image A.d_image ["matrix", "row"] (sp_image K) := ok_image T
  refine T.f_pairing_of.ok sc_pairing_of (fun vs H Q E h => ?_) (fun cdv B out t H vs Q E hr h => ?_)
  · obtain ⟨v, u, x, M, r, s, rfl, _⟩ := h
    rfl
  · obtain ⟨v, u, x, M, r, s, rfl, hM, hr1, ⟨c, rfl, hc⟩, wM, wr, ws, wi, zM, zr, q⟩ := h
    refine ⟨_, (pss_one (ps_ret (pe_call G_dot (hr.mono (by decide)) (by rfl) T.g_dot T.f_dot.kp (b_dot T) .nil pass0 (pa_cons (pe_call G_image (hr.mono (by decide)) (by rfl) T.g_image T.f_image.kp (b_image T) .nil pass0 (pa_cons (pv 0) (pa_cons (pv 1) pa_nil))) (pa_cons (pv 2) pa_nil))))), ?_⟩
    refine ⟨_, rfl, _, rfl, v, u, M, true, r, rfl, hM, hr1, wM, wr, zM, zr, fun v' H1 e1 ⟨b, hb0, hb⟩ => ?_⟩
    subst hb0
    exact ⟨_, rfl, true, true, b, c, imgL M r, s, rfl, hb, same_k e1 hc, wi, ws, by simpa [imgL] using zM, fun H2 e2 => q H2 (e1.trans e2)⟩
def sp_value_at (K : PySem.W.Frag) : Sp := fun vs H Q _ => ∃ v u M r, vs = [v, u] ∧ MtAt K H true v M ∧ RwAt K H true u r ∧ AllW M ∧ (∀ x ∈ r, Wd x) ∧ (∀ x ∈ imgL M r, Wd x) ∧ M.length < 100000 ∧ (∀ l ∈ M, l.length < 100000) ∧
  ∀ H', Same H H' → Q (.int (valL M r)) H'
theorem ok_value_at (T : Txt K mg A) : FnOk P w K mg base CX0 4 A.a_value_at A.d_value_at ["table", "row"] (sp_value_at K) := by
  have G_pairing_of : FnOk P w K mg base CX0 3 A.a_pairing_of A.d_pairing_of ["table", "one", "other"] (sp_pairing_of K) := ok_pairing_of T
  refine T.f_value_at.ok sc_value_at (fun vs H Q E h => ?_) (fun cdv B out t H vs Q E hr h => ?_)
  · obtain ⟨v, u, M, r, rfl, _⟩ := h
    rfl
  · obtain ⟨v, u, M, r, rfl, hM, hr1, wM, wr, wi, zM, zr, q⟩ := h
    refine ⟨_, (pss_one (ps_ret (pe_call G_pairing_of (hr.mono (by decide)) (by rfl) T.g_pairing_of T.f_pairing_of.kp (b_pairing_of T) .nil pass0 (pa_cons (pv 0) (pa_cons (pv 1) (pa_cons (pv 1) pa_nil)))))), ?_⟩
    exact ⟨_, rfl, _, rfl, _, rfl, v, u, u, M, r, r, rfl, hM, hr1, hr1, wM, wr, wr, wi, zM, zr, q⟩
def sp_led_by (K : PySem.W.Frag) : Sp := fun vs H Q _ => ∃ v u n M U, vs = [v, u] ∧ MtAt K H true v M ∧ MtAt K H true u U ∧ Sq n M ∧ Sq n U ∧ AllW M ∧ AllW U ∧ AllW (mulM n M U) ∧
  ∀ v' H', Same H H' → MtAt K H' true v' (ledM n M U) → Q v' H'
theorem ok_led_by (T : Txt K mg A) : FnOk P w K mg base CX0 3 A.a_led_by A.d_led_by ["table", "matrix"] (sp_led_by K) := by
  have G_turned : FnOk P w K mg base CX0 1 A.a_turned A.d_turned ["lines"] (sp_turned K) := ok_turned T
  have G_multiplied : FnOk P w K mg base CX0 2 A.a_multiplied A.d_multiplied ["one", "other"] (sp_multiplied K) := ok_multiplied T
  refine T.f_led_by.ok sc_led_by (fun vs H Q E h => ?_) (fun cdv B out t H vs Q E hr h => ?_)
  · obtain ⟨v, u, n, M, U, rfl, _⟩ := h
    rfl
  · obtain ⟨v, u, n, M, U, rfl, hM, hU, sM, sU, wM, wU, wP, q⟩ := h
    refine ⟨_, (pss_one (ps_ret (pe_call G_multiplied (hr.mono (by decide)) (by rfl) T.g_multiplied T.f_multiplied.kp (b_multiplied T) .nil pass0 (pa_cons (pe_call G_turned (hr.mono (by decide)) (by rfl) T.g_turned T.f_turned.kp (b_turned T) .nil pass0 (pa_cons (pv 1) pa_nil)) (pa_cons (pe_call G_multiplied (hr.mono (by decide)) (by rfl) T.g_multiplied T.f_multiplied.kp (b_multiplied T) .nil pass0 (pa_cons (pv 0) (pa_cons (pv 1) pa_nil))) pa_nil))))), ?_⟩
    refine ⟨_, rfl, true, u, U, n, rfl, hU, sU.ne, sU.pos, sU.row, fun t1 H1 e1 h1 => ?_⟩
    refine ⟨_, rfl, _, rfl, true, v, u, M, U, n, rfl, hM.mono e1, hU.mono e1, sU.ne, sU.pos, sU.row, wM, wU, sM.lt, sU.few, sM.rlt, fun t2 H2 e2 h2 => ?_⟩
    exact ⟨true, t1, t2, trM n U, mulM n M U, n, rfl, h1.mono e2, h2, (sM.mul (B := U)).ne, sM.pos, (sM.mul (B := U)).row, wU.tr sU, wP, sU.tr.lt, sM.few, sU.tr.rlt, fun t3 H3 e3 h3 => q t3 H3 (e1.trans (e2.trans e3)) h3⟩
def sp_moved_by (K : PySem.W.Frag) : Sp := fun vs H Q _ => ∃ v u n M U, vs = [v, u] ∧ MtAt K H true v M ∧ MtAt K H true u U ∧ Sq n M ∧ Sq n U ∧ AllW M ∧ AllW U ∧ AllW (mulM n M (trM n U)) ∧
  ∀ v' H', Same H H' → MtAt K H' true v' (movM n M U) → Q v' H'
theorem ok_moved_by (T : Txt K mg A) : FnOk P w K mg base CX0 3 A.a_moved_by A.d_moved_by ["table", "matrix"] (sp_moved_by K) := by
  have G_turned : FnOk P w K mg base CX0 1 A.a_turned A.d_turned ["lines"] (sp_turned K) := ok_turned T
  have G_multiplied : FnOk P w K mg base CX0 2 A.a_multiplied A.d_multiplied ["one", "other"] (sp_multiplied K) := ok_multiplied T
  refine T.f_moved_by.ok sc_moved_by (fun vs H Q E h => ?_) (fun cdv B out t H vs Q E hr h => ?_)
  · obtain ⟨v, u, n, M, U, rfl, _⟩ := h
    rfl
  · obtain ⟨v, u, n, M, U, rfl, hM, hU, sM, sU, wM, wU, wP, q⟩ := h
    refine ⟨_, (pss_one (ps_ret (pe_call G_multiplied (hr.mono (by decide)) (by rfl) T.g_multiplied T.f_multiplied.kp (b_multiplied T) .nil pass0 (pa_cons (pv 1) (pa_cons (pe_call G_multiplied (hr.mono (by decide)) (by rfl) T.g_multiplied T.f_multiplied.kp (b_multiplied T) .nil pass0 (pa_cons (pv 0) (pa_cons (pe_call G_turned (hr.mono (by decide)) (by rfl) T.g_turned T.f_turned.kp (b_turned T) .nil pass0 (pa_cons (pv 1) pa_nil)) pa_nil))) pa_nil))))), ?_⟩
    refine ⟨_, rfl, _, rfl, _, rfl, true, u, U, n, rfl, hU, sU.ne, sU.pos, sU.row, fun t1 H1 e1 h1 => ?_⟩
    refine ⟨true, v, t1, M, trM n U, n, rfl, hM.mono e1, h1, sU.tr.ne, sU.pos, sU.tr.row, wM, wU.tr sU, sM.lt, sU.few, sM.rlt, fun t2 H2 e2 h2 => ?_⟩
    exact ⟨true, u, t2, U, mulM n M (trM n U), n, rfl, hU.mono (e1.trans e2), h2, (sM.mul (B := trM n U)).ne, sM.pos, (sM.mul (B := trM n U)).row, wU, wP, sU.lt, sM.few, sU.rlt, fun t3 H3 e3 h3 => q t3 H3 (e1.trans (e2.trans e3)) h3⟩
end
end K06

set_option maxHeartbeats 400000
namespace K06
open PySem PySem.Spec PyProof.Rows L2 My ZN
section
variable {P : Program} {w : World} {K : PySem.W.Frag} {mg : Str → Option Value} {base : Heap} {A : Adr}
/-- the place of the first integer other than 0 -/
def firstNZ (ns : List Int) : V := match ns.findIdx? (fun x => x != 0) with
  | some i => .int (i : Nat)
  | none => .non
theorem firstNZ_some {ns : List Int} {i : Nat} (hi : i < ns.length) (h0 : ∀ j (h : j < i), ns[j] = 0) (h1 : ns[i] ≠ 0) : firstNZ ns = .int (i : Nat) := by
  have e : ns.findIdx? (fun x => x != 0) = some i := by
    rw [List.findIdx?_eq_some_iff_getElem]
    refine ⟨hi, by simpa using h1, fun j hj => by simpa using h0 j hj⟩
  unfold firstNZ
  rw [e]
theorem firstNZ_none {ns : List Int} (h0 : ∀ j (h : j < ns.length), ns[j] = 0) : firstNZ ns = .non := by
  have e : ns.findIdx? (fun x => x != 0) = none := by
    rw [List.findIdx?_eq_none_iff]
    intro x hx
    obtain ⟨j, hj, rfl⟩ := List.getElem_of_mem hx
    simpa using h0 j hj
  unfold firstNZ
  rw [e]
def sp_first_other_than_0 (K : PySem.W.Frag) : Sp := fun vs H Q _ => ∃ v k ns, vs = [v] ∧ RwAt K H k v ns ∧ ∀ H', Same H H' → Q (firstNZ ns) H'
theorem ok_first_other_than_0 (T : Txt K mg A) : FnOk P w K mg base CX0 1 A.a_first_other_than_0 A.d_first_other_than_0 ["numbers"] (sp_first_other_than_0 K) := by
  refine T.f_first_other_than_0.ok sc_first_other_than_0 (fun vs H Q E h => ?_) (fun cdv B out t H vs Q E hr h => ?_)
  · obtain ⟨v, k, ns, rfl, _⟩ := h
    rfl
  · obtain ⟨v, k, ns, rfl, ⟨a, rfl, hs⟩, q⟩ := h
    refine ⟨_, (pss_cons (ps_for PassesOwn.never rfl (ZN.pi_enumK (by rfl) T.n_enumerate (pa_cons (pv 0) pa_nil)) (pg_tup (by rfl) (pgs_cons (pg_name (i := 1) sc_first_other_than_0.nd rfl (Or.inl rfl)) (pgs_cons (pg_name (i := 2) sc_first_other_than_0.nd rfl (Or.inl rfl)) pgs_nil))) (pss_one (ps_if (pt_cmpR op_ne (pv 2) pe_int (nomark _)) (pss_one (ps_ret (pv 1))) pss_nil)))
      (pss_one (ps_ret pe_non))), ?_⟩
    refine ⟨_, rfl, k, a, irow ns, rfl, hs, for_it (walk_enumK (K := K) (k := k) (a := a) (xs := irow ns)) (fun i σ H' => Same H H' ∧ (∀ j (h : j < ns.length), j < i → ns[j] = 0) ∧ ∃ x y : Option V, σ = [some (.ref a), x, y])
      ⟨Same.refl _, fun j h hj => absurd hj (Nat.not_lt_zero _), none, none, rfl⟩ (fun i σ H' _ h => same_k h.1 hs) ?_ ?_⟩
    · rintro i x σ H1 H2 hi ⟨e1, h0, x0, y0, rfl⟩ ⟨Tt, x1, y1, rfl, hT, rfl, hx, hy⟩
      have hin : i < ns.length := by simpa [irow] using hi
      obtain rfl : V.int (i : Nat) = x1 := by simpa using hx
      obtain rfl : V.int ns[i] = y1 := by simpa [irow, hin] using hy
      have e2 : Same H1 (upd H1 Tt (.tup [.int (i : Nat), .int ns[i]])) := same_new hT
      refine ⟨Tt, _, rfl, .inl (.inl upd_same), rfl, _, _, rfl, _, _, rfl, rfl, ?_⟩
      refine ⟨_, rfl, rfl, _, rfl, ?_⟩
      by_cases c : ns[i] = 0
      · refine if_neg_of (by rw [dec_int]; simp [c]) ?_
        refine ⟨e1.trans e2, fun j h hj => ?_, _, _, rfl⟩
        rcases Nat.lt_or_eq_of_le (Nat.le_of_lt_succ hj) with z | z
        · exact h0 j h z
        · subst z; exact c
      · refine if_pos_of (by rw [dec_int]; simp [c]) ?_
        refine ⟨_, rfl, ?_⟩
        have := q _ (e1.trans e2)
        rw [firstNZ_some hin (fun j h => h0 j (by omega) h) c] at this
        exact this
    · rintro σ H1 ⟨e1, h0, x0, y0, rfl⟩
      have := q _ e1
      rw [firstNZ_none fun j h => h0 j h (by simpa [irow] using h)] at this
      exact this
end
end K06

set_option maxHeartbeats 400000
namespace My
open PySem PySem.Spec PyProof.Rows L2 ZN
/-- a new tuple (true) or list -/
def mkK (k : Bool) (xs : List V) : HO := if k = true then .tup xs else .lst xs
theorem sq_mk {K : PySem.W.Frag} {k : Bool} {H : Hp} {a : Addr} {xs : List V} (h : H a = some (mkK k xs)) : SqK k K H a xs := by
  cases k
  · exact .inl (.inl h)
  · exact .inl (.inl h)
theorem cut_lo {xs : List V} {i : Nat} (h : i < xs.length) : cutV xs none (some (i : Int)) = xs.take i := by
  unfold cutV
  rw [HT.sIx_none, HT.sIx_nat, Nat.sub_zero, List.drop_zero, Nat.min_eq_left (by omega)]
theorem cut_hi {xs : List V} {i : Nat} (h : i < xs.length) : cutV xs (some ((i : Int) + 1)) none = xs.drop (i + 1) := by
  unfold cutV
  rw [show ((i : Int) + 1) = ((i + 1 : Nat) : Int) by omega, HT.sIx_none, HT.sIx_nat, Nat.min_eq_left (by omega)]
  exact List.take_of_length_le (by simp)
theorem none_of_same {H H' : Hp} {a : Addr} (e : Same H H') (h : H' a = none) : H a = none := by
  cases c : H a with
  | none => rfl
  | some u => rw [e a u c] at h; cases h
end My
namespace K06
open PySem PySem.Spec PyProof.Rows L2 My ZN
section
variable {P : Program} {w : World} {K : PySem.W.Frag} {mg : Str → Option Value} {base : Heap} {A : Adr}
def sp_without (K : PySem.W.Frag) : Sp := fun vs H Q _ => ∃ a k xs i, vs = [.ref a, .int (i : Nat)] ∧ SqK k K H a xs ∧ i < xs.length ∧ xs.length < 100000 ∧
  ∀ D H', Same H H' → H D = none → H' D = some (mkK k (xs.eraseIdx i)) → Q (.ref D) H'
theorem ok_without (T : Txt K mg A) : FnOk P w K mg base CX0 1 A.a_without A.d_without ["things", "index"] (sp_without K) := by
  refine T.f_without.ok sc_without (fun vs H Q E h => ?_) (fun cdv B out t H vs Q E hr h => ?_)
  · obtain ⟨a, k, xs, i, rfl, _⟩ := h
    rfl
  · obtain ⟨a, k, xs, i, rfl, hs, hi, hz, q⟩ := h
    refine ⟨_, (pss_one (ps_ret (pe_op (OpR.or op_catA op_cat) (pe_slice (SlR.or sl_tupA sl_list) (pv 0) po_none (po_some (pv 1))) (pe_slice (SlR.or sl_tupA sl_list) (pv 0) (po_some (pe_op op_add (pv 1) pe_int)) po_none)))), ?_⟩
    have ee : xs.take i ++ xs.drop (i + 1) = xs.eraseIdx i := (List.eraseIdx_eq_take_drop_succ ..).symm
    have el : (xs.take i).length + (xs.drop (i + 1)).length ≤ sizeLine := by
      have : (xs.take i).length + (xs.drop (i + 1)).length ≤ xs.length := by simp; omega
      exact Nat.le_trans (Nat.le_of_lt (Nat.lt_of_le_of_lt this hz)) (by rw [sizeLine_eq]; decide)
    cases k with
    | true =>
      have n1 : ¬ (HT.sIx xs.length 0 none = 0 ∧ HT.sIx xs.length xs.length (some (i : Int)) = xs.length) := fun z => by
        rw [HT.sIx_nat] at z; omega
      have n2 : ¬ (HT.sIx xs.length 0 (some ((i : Int) + 1)) = 0 ∧ HT.sIx xs.length xs.length none = xs.length) := fun z => by
        rw [show ((i : Int) + 1) = ((i + 1 : Nat) : Int) by omega, HT.sIx_nat] at z; omega
      refine ⟨_, rfl, _, rfl, _, rfl, .inl ⟨a, xs, rfl, hs, fun z => absurd z n1, fun _ p hp => ?_⟩⟩
      have e1 : Same H (upd H p (.tup (xs.take i))) := same_new hp
      rw [cut_lo hi]
      refine ⟨_, rfl, _, rfl, _, _, rfl, rfl, _, rfl, .inl ⟨a, xs, rfl, same_t e1 hs, fun z => absurd z n2, fun _ p2 hp2 => ?_⟩⟩
      rw [cut_hi hi]
      have e2 := e1.trans (same_new (o := .tup (xs.drop (i + 1))) hp2)
      have f1 : (upd (upd H p (.tup (xs.take i))) p2 (.tup (xs.drop (i + 1)))) p = some (.tup (xs.take i)) := same_new hp2 _ _ upd_same
      have hp3 : H p2 = none := none_of_same e1 hp2
      refine .inl ⟨p, p2, _, _, rfl, rfl, .inl (.inl f1), .inl (.inl upd_same), el, fun z => ?_, fun _ z => ?_, fun _ _ p4 hp4 => ?_⟩
      · refine q p2 _ e2 hp3 ?_
        rw [← ee, z, List.nil_append]
        exact upd_same
      · refine q p _ e2 hp ?_
        have ez : xs.eraseIdx i = xs.take i := by rw [← ee, z, List.append_nil]
        rw [ez]
        exact f1
      · refine q p4 _ (e2.trans (same_new hp4)) (none_of_same e2 hp4) ?_
        rw [← ee]
        exact upd_same
    | false =>
      refine ⟨_, rfl, _, rfl, _, rfl, .inr ⟨a, xs, rfl, hs, fun p hp => ?_⟩⟩
      have e1 : Same H (upd H p (.lst (xs.take i))) := same_new hp
      rw [cut_lo hi]
      refine ⟨_, rfl, _, rfl, _, _, rfl, rfl, _, rfl, .inr ⟨a, xs, rfl, same_l e1 hs, fun p2 hp2 => ?_⟩⟩
      rw [cut_hi hi]
      have e2 := e1.trans (same_new (o := .lst (xs.drop (i + 1))) hp2)
      have f1 : (upd (upd H p (.lst (xs.take i))) p2 (.lst (xs.drop (i + 1)))) p = some (.lst (xs.take i)) := same_new hp2 _ _ upd_same
      refine .inr ⟨p, p2, _, _, rfl, rfl, f1, upd_same, el, fun p4 hp4 => ?_⟩
      refine q p4 _ (e2.trans (same_new hp4)) (none_of_same e2 hp4) ?_
      rw [← ee]
      exact upd_same
end
end K06

set_option maxHeartbeats 400000
namespace K06
open PySem PySem.Spec PyProof.Rows L2 My ZN
section
variable {P : Program} {w : World} {K : PySem.W.Frag} {mg : Str → Option Value} {base : Heap} {A : Adr}
def sp_cleared_line (K : PySem.W.Frag) : Sp := fun vs H Q _ => ∃ a b k1 k2 pw ln c s, vs = [.ref a, .ref b, .int (c : Nat), .int s] ∧ SqK k1 K H a (irow pw) ∧ SqK k2 K H b (irow ln) ∧ c < pw.length ∧ pw.length = ln.length ∧ pw.length < 100000 ∧
  (∀ x ∈ pw, Wd x) ∧ (∀ x ∈ ln, Wd x) ∧ CDivA 0 s ∧ ∀ D H', Same H H' → H D = none → H' D = some (.lst (irow (clr pw ln c s))) → Q (.ref D) H'
theorem ok_cleared_line (T : Txt K mg A) : FnOk P w K mg base CX0 1 A.a_cleared_line A.d_cleared_line ["pivot", "line", "column", "scale"] (sp_cleared_line K) := by
  refine T.f_cleared_line.ok sc_cleared_line (fun vs H Q E h => ?_) (fun cdv B out t H vs Q E hr h => ?_)
  · obtain ⟨a, b, k1, k2, pw, ln, c, s, rfl, _⟩ := h
    rfl
  · obtain ⟨a, b, k1, k2, pw, ln, c, s, rfl, ha, hb, hc, hl, hz, wp, wl, hs, q⟩ := h
    refine ⟨_, (pss_cons (ps_asg (pe_tup (pa_cons (pe_ix ix_seq (pv 0) (pv 2) (fun _ _ => rfl)) (pa_cons (pe_ix ix_seq (pv 1) (pv 2) (fun _ _ => rfl)) pa_nil))) (pg_tup (by rfl) (pgs_cons (pg_name (i := 4) sc_cleared_line.nd rfl (Or.inr rfl)) (pgs_cons (pg_name (i := 5) sc_cleared_line.nd rfl (Or.inr rfl)) pgs_nil))))
      (pss_one (ps_ret (pe_lc (own := [("number", 6), ("other", 7)]) (g := (gTup K 2 (gCons (gName 6) (gCons (gName 7) gNil)))) (tt := tYes)  rfl sc_cleared_line.nd (ZN.pi_zip2 (by rfl) T.n_zip (pa_cons (pv 1) (pa_cons (pv 0) pa_nil))) (blkOk_by (own := [("number", 6), ("other", 7)]) (N := names_cleared_line) (sc := defScope s_cleared_line) (by decide +kernel)) (fun _ _ _ _ _ => (pg_tup (by rfl) (pgs_cons (pg_name (i := 6) sc_cleared_line.nd rfl (Or.inl rfl)) (pgs_cons (pg_name (i := 7) sc_cleared_line.nd rfl (Or.inl rfl)) pgs_nil)))) (fun _ _ _ _ _ => pts_nil) (fun _ _ _ _ _ => by apply My.pe_eq; (case h => exact (pe_op op_fdivA (pe_op op_sub (pe_op op_mulW (pv 4) (pv 6)) (pe_op op_mulW (pv 5) (pv 7))) (pv 3))); all_goals (first | exact rfl | (dsimp only [L2.Cx.blk, L2.Cx.nox, L2.cxOf]; done) | (dsimp only [L2.Cx.blk, L2.Cx.nox, L2.cxOf]; exact rfl))))))), ?_⟩
    have hcl : c < ln.length := hl ▸ hc
    refine ⟨_, rfl, _, rfl, ix_k ha (irow_get hc) ⟨_, rfl, _, rfl, ix_k hb (irow_get hcl) ⟨by show 2 ≤ sizeLine; decide, fun p hp => ?_⟩⟩⟩
    have e1 : Same H (upd H p (.tup [.int (pw.getD c 0), .int (ln.getD c 0)])) := same_new hp
    refine ⟨p, _, rfl, .inl (.inl upd_same), rfl, _, _, rfl, _, _, rfl, rfl, ?_⟩
    generalize upd H p (.tup [.int (pw.getD c 0), .int (ln.getD c 0)]) = H1 at e1 ⊢
    dsimp only [tRet]
    refine comp_pair (K := K) (walk_zip2 (k1 := k2) (k2 := k1) (a := b) (b := a) (xs := irow ln) (ys := irow pw) rfl) (fun k => .int ((pw.getD c 0 * ln.getD k 0 - ln.getD c 0 * pw.getD k 0).fdiv s)) (by simp only [irow, List.length_map]; omega)
      (fun H' e => ⟨same_k (e1.trans e) hb, same_k (e1.trans e) ha⟩) (fun R r => ⟨_, rfl, _, rfl, k2, k1, b, a, _, _, rfl, same_k e1 hb, same_k e1 ha, r⟩) (fun x y => rfl) ?_ ?_
    · intro k x y D acc H2 A1 hk e2 hD hL hx hy hA
      obtain ⟨hk1, rfl⟩ := irow_get' hx
      obtain ⟨hk2, rfl⟩ := irow_get' hy
      exact ⟨_, rfl, _, rfl, _, _, rfl, rfl, Wd.mul (wp _ (mem_getD hc)) (wl _ (mem_getD hk1)), _, rfl, _, rfl, _, _, rfl, rfl, Wd.mul (wl _ (mem_getD hcl)) (wp _ (mem_getD hk2)), _, _, rfl, rfl, _, rfl, _, _, rfl, rfl, hs, hA _ _ (Same.refl _) fun u => .int _⟩
    · intro D zs H2 e2 hD hL hj
      rw [zipW_data (fun n o => (pw.getD c 0 * n - ln.getD c 0 * o).fdiv s)] at hj
      rw [jd_ints_inv _ _ hj] at hL
      exact q D H2 (e1.trans e2) (e1.free hD) hL
end
end K06

set_option maxHeartbeats 400000
namespace K06
open PySem PySem.Spec PyProof.Rows L2 My ZN
section
variable {P : Program} {w : World} {K : PySem.W.Frag} {mg : Str → Option Value} {base : Heap} {A : Adr}
def sp_eliminated_determinant (K : PySem.W.Frag) : Sp := fun vs H Q _ => ∃ a k kk ls M, vs = [.ref a] ∧ SqK k K H a ls ∧ RowsK K H kk ls M ∧ M.length < 100000 ∧ Good M.length M.length 0 M 1 ∧ ∀ H', Same H H' → Q (.int (detL M)) H'
theorem ok_eliminated_determinant (T : Txt K mg A) : FnOk P w K mg base CX0 2 A.a_eliminated_determinant A.d_eliminated_determinant ["lines"] (sp_eliminated_determinant K) := by
  have G_first_other_than_0 : FnOk P w K mg base CX0 1 A.a_first_other_than_0 A.d_first_other_than_0 ["numbers"] (sp_first_other_than_0 K) := ok_first_other_than_0 T
  have G_without : FnOk P w K mg base CX0 1 A.a_without A.d_without ["things", "index"] (sp_without K) := ok_without T
  have G_cleared_line : FnOk P w K mg base CX0 1 A.a_cleared_line A.d_cleared_line ["pivot", "line", "column", "scale"] (sp_cleared_line K) := ok_cleared_line T
  refine T.f_eliminated_determinant.ok sc_eliminated_determinant (fun vs H Q E h => ?_) (fun cdv B out t H vs Q E hr h => ?_)
  · obtain ⟨a, k, kk, ls, M, rfl, _⟩ := h
    rfl
  · obtain ⟨a, k, kk, ls, M, rfl, ha, hm, hz, hg, q⟩ := h
    refine ⟨_, (pss_cons (ps_asg (pe_tup (pa_cons (pe_callTy call_list_of (by rfl) T.n_list (by decide +kernel) (pa_cons (pv 0) pa_nil)) (pa_cons pe_int (pa_cons pe_int pa_nil)))) (pg_tup (by rfl) (pgs_cons (pg_name (i := 1) sc_eliminated_determinant.nd rfl (Or.inl rfl)) (pgs_cons (pg_name (i := 2) sc_eliminated_determinant.nd rfl (Or.inr rfl)) (pgs_cons (pg_name (i := 3) sc_eliminated_determinant.nd rfl (Or.inl rfl)) pgs_nil)))))
      (pss_cons (ps_for PassesOwn.never rfl (pi_range1 (by rfl) T.n_range (pa_cons (pe_callB call_len_seq (by rfl) T.n_len (by decide +kernel) (pa_cons (pv 0) pa_nil)) pa_nil)) (pg_name (i := 4) sc_eliminated_determinant.nd rfl (Or.inr rfl)) (pss_cons (ps_set (i := 5) sc_eliminated_determinant.nd rfl (Or.inl rfl) (pe_call G_first_other_than_0 (hr.mono (by decide)) (by rfl) T.g_first_other_than_0 T.f_first_other_than_0.kp (b_first_other_than_0 T) .nil pass0 (pa_cons (pe_lc (own := [("line", 6)]) (g := (gName 6)) (tt := tYes)  rfl sc_eliminated_determinant.nd (pi_list (pv 1)) (blkOk_by (own := [("line", 6)]) (N := names_eliminated_determinant) (sc := defScope s_eliminated_determinant) (by decide +kernel)) (fun _ _ _ _ _ => (pg_name (i := 6) sc_eliminated_determinant.nd rfl (Or.inl rfl))) (fun _ _ _ _ _ => pts_nil) (fun _ _ _ _ _ => by apply My.pe_eq; (case h => exact (pe_ix ix_seq (pv 6) (pv 4) (fun _ _ => rfl))); all_goals (first | exact rfl | (dsimp only [L2.Cx.blk, L2.Cx.nox, L2.cxOf]; done) | (dsimp only [L2.Cx.blk, L2.Cx.nox, L2.cxOf]; exact rfl)))) pa_nil)))
      (pss_cons (ps_if (pt_cmpR op_isN (pv 5) pe_non (nomark _)) (pss_one (ps_ret pe_int)) pss_nil)
      (pss_cons (ps_set (i := 7) sc_eliminated_determinant.nd rfl (Or.inr rfl) (pe_ix ix_seq (pv 1) (pv 5) (fun _ _ => rfl)))
      (pss_cons (ps_set (i := 3) sc_eliminated_determinant.nd rfl (Or.inl rfl) (pe_ifExp (pt_truth (pe_op op_and (pv 5) pe_int) (by intro _; rfl)) (pe_un un_neg (pv 3)) (pv 3)))
      (pss_cons (ps_setLc (i := 1) (own := [("line", 6)]) (g := (gName 6)) (tt := tYes)  rfl sc_eliminated_determinant.nd rfl rfl (sw_true rfl rfl rfl (by decide +kernel)) (pi_list (pe_call G_without (hr.mono (by decide)) (by rfl) T.g_without T.f_without.kp (b_without T) .nil pass0 (pa_cons (pv 1) (pa_cons (pv 5) pa_nil)))) (blkOk_by (own := [("line", 6)]) (N := names_eliminated_determinant) (sc := defScope s_eliminated_determinant) (by decide +kernel)) (fun _ _ _ _ _ => (pg_name (i := 6) sc_eliminated_determinant.nd rfl (Or.inl rfl))) (fun _ _ _ _ _ => pts_nil) (fun _ _ _ _ _ => by apply My.pe_eq; (case h => exact (pe_call G_cleared_line (hr.mono (by decide)) (by rfl) T.g_cleared_line T.f_cleared_line.kp (b_cleared_line T) .nil pass0 (pa_cons (pv 7) (pa_cons (pv 6) (pa_cons (pv 4) (pa_cons (pv 2) pa_nil)))))); all_goals (first | exact rfl | (dsimp only [L2.Cx.blk, L2.Cx.nox, L2.cxOf]; done) | (dsimp only [L2.Cx.blk, L2.Cx.nox, L2.cxOf]; exact rfl))))
      (pss_one (ps_set (i := 2) sc_eliminated_determinant.nd rfl (Or.inr rfl) (pe_ix ix_seq (pv 7) (pv 4) (fun _ _ => rfl))))))))))
      (pss_one (ps_ret (pe_op op_mulW (pv 3) (pv 2)))))), ?_⟩
    refine ⟨_, rfl, a, ls, rfl, by cases k
                                   · exact .inl ha
                                   · exact .inr ha, fun p hp => ⟨by show 3 ≤ sizeLine; decide, fun p2 hp2 => ?_⟩⟩
    have e1 : Same H (upd (upd H p (.lst ls)) p2 (.tup [.ref p, .int 1, .int 1])) := (same_new hp).trans (same_new hp2)
    have hpl : (upd (upd H p (.lst ls)) p2 (.tup [.ref p, .int 1, .int 1])) p = some (.lst ls) := same_new hp2 _ _ upd_same
    refine ⟨p2, _, rfl, .inl (.inl upd_same), rfl, _, _, rfl, _, _, rfl, _, _, rfl, rfl, ?_⟩
    generalize upd (upd H p (.lst ls)) p2 (.tup [.ref p, .int 1, .int 1]) = H1 at e1 hpl ⊢
    refine ⟨_, rfl, a, ls, rfl, by cases k
                                   · exact .inl (same_l e1 ha)
                                   · exact .inr (same_t e1 ha), _, rfl, by omega, by have := hm.1; omega, ?_⟩
    have hlen : (Int.toNat ((ls.length : Nat) : Int)) = M.length := by rw [← hm.1]; rfl
    rw [hlen]
    refine for_it (walk_range (lo := 0) (n := M.length)) (fun i σ H' => i ≤ M.length ∧ Same H H' ∧ ∃ (r : Addr) (ls' : List V) (rest : List (List Int)) (s g : Int) (kk' : Bool) (x4 x5 x7 : Option V),
      σ = [some (.ref a), some (.ref r), some (.int s), some (.int g), x4, x5, none, x7] ∧ SqL K H' r ls' ∧ RowsK K H' kk' ls' rest ∧ detGo (M.length - i) i rest s g = detL M ∧ Good M.length (M.length - i) i rest s ∧ g.natAbs = 1 ∧ Wd s)
      ⟨Nat.zero_le _, e1, p, ls, M, 1, 1, kk, none, none, none, rfl, .inl (.inl hpl), hm.mono e1, rfl, hg, rfl, Wd.unit (by decide)⟩ (fun _ _ _ _ _ => trivial) ?_ ?_
    · rintro i x σ H2 H3 hi ⟨_, e2, r, ls', rest, s, g, kk', x4, x5, x7, rfl, hr', hR, hd, hG, hg1, hs1⟩ ⟨rfl, hx⟩
      obtain rfl : x = V.int (i : Nat) := by rw [hx]; show V.int (0 + (i : Int)) = _; rw [Int.zero_add]
      rw [show M.length - i = (M.length - (i + 1)) + 1 by omega] at hd hG
      obtain ⟨wR, wS, wW, hc, _, zR, hN⟩ := hG
      dsimp only [gName, tSeq, tAsg, tCall, tCons, tNil]
      have hcol : (rest.map fun r => r.getD i 0).length = rest.length := by simp
      -- the column
      refine comp_one (K := K) (walk_list (a := r) (xs := ls')) (fun m => .int ((rest.getD m []).getD i 0)) (by rw [hR.1]; exact zR) (fun H' e => same_l e hr') (fun R q0 => ⟨_, rfl, r, rfl, ⟨_, hr'⟩, q0⟩) (fun x => rfl) ?_ ?_
      · intro m x D acc H4 A1 hm2 e4 hD hL hx2 hA
        have hmr : m < rest.length := by have := hR.1; omega
        obtain ⟨tr, htr, hst⟩ := hR.get hmr
        obtain rfl : x = .ref tr := by rw [hx2] at htr; exact Option.some.inj htr
        have hw : i < (rest.getD m []).length := by
          have e : rest.getD m [] = rest[m] := by simp [hmr]
          rw [e, wW _ (List.getElem_mem hmr)]; exact hc
        exact ⟨_, rfl, _, rfl, ix_k (same_k e4 hst) (irow_get hw) (hA _ _ (Same.refl _) fun u => .int _)⟩
      · intro D ys H4 e4 hD hL hj
        rw [range_getD' (fun l => PyData.int (l.getD i 0)) [] rest ls'.length hR.1] at hj
        have hj2 : JdAll K H4 ys ((rest.map fun l => l.getD i 0).map PyData.int) := by simpa [List.map_map, Function.comp_def] using hj
        rw [jd_ints_inv _ _ hj2] at hL
        have hCol : SqK false K H4 D (irow (rest.map fun l : List Int => l.getD i 0)) := .inl (.inl hL)
        refine ⟨_, false, rest.map fun l : List Int => l.getD i 0, rfl, ⟨D, rfl, hCol⟩, fun H5 e5 => ?_⟩
        cases ep : pivAt i rest with
        | none =>
          have ef : firstNZ (rest.map fun l : List Int => l.getD i 0) = .non := by
            unfold firstNZ
            rw [show (rest.map fun l : List Int => l.getD i 0).findIdx? (fun x => x != 0) = none from ep]
          rw [ef]
          refine ⟨_, rfl, rfl, _, rfl, if_pos_of (decide_eq_true rfl) ?_⟩
          have h1 := q H5 (e2.trans (e4.trans e5))
          rw [← hd] at h1
          unfold detGo at h1
          rw [ep] at h1
          exact h1
        | some m =>
          have ef : firstNZ (rest.map fun l : List Int => l.getD i 0) = .int (m : Nat) := by
            unfold firstNZ
            rw [show (rest.map fun l : List Int => l.getD i 0).findIdx? (fun x => x != 0) = some m from ep]
          rw [ef]
          obtain ⟨hm2, hp0⟩ := pivAt_some ep
          have hG2 := hN m ep
          obtain ⟨tp, htp, hsp⟩ := hR.get hm2
          have epw : rest.getD m [] = rest[m] := by simp [hm2]
          have wpw : (rest.getD m []).length = M.length := by rw [epw]; exact wW _ (List.getElem_mem hm2)
          have apw : ∀ x ∈ rest.getD m [], Wd x := by rw [epw]; exact wR _ (List.getElem_mem hm2)
          have e35 : Same H3 H5 := e4.trans e5
          refine ⟨_, rfl, rfl, _, rfl, if_neg_of (decide_eq_false (by intro z; cases z)) ?_⟩
          refine ⟨_, rfl, _, rfl, ix_k (k := false) (same_l e35 hr') htp ?_⟩
          refine ⟨_, rfl, _, _, rfl, rfl, _, rfl, sign_un rfl ?_⟩
          dsimp only [tSeq, tAsg, gName]
          rw [tLc_eq]
          refine ⟨_, rfl, _, rfl, r, false, ls', m, rfl, same_l e35 hr', by rw [hR.1]; exact hm2, by rw [hR.1]; exact zR, fun D2 H6 e6 hD2 hL2 => ⟨D2, rfl, ⟨_, .inl (.inl hL2)⟩, ?_⟩⟩
          have e36 : Same H3 H6 := e35.trans e6
          have hRe := (hR.mono e36).erase m
          have hse : SqL K H6 D2 (ls'.eraseIdx m) := .inl (.inl hL2)
          have hle : (rest.eraseIdx m).length ≤ rest.length := List.length_eraseIdx_le ..
          unfold LcAt
          refine comp_one (K := K) (walk_list (a := D2) (xs := ls'.eraseIdx m)) (fun k => .list ((clr (rest.getD m []) ((rest.eraseIdx m).getD k []) i s).map .int)) (by rw [hRe.1]; omega) (fun H' e => same_l e hse) (fun R q0 => q0) (fun x => rfl) ?_ ?_
          · intro k2 x D3 acc H7 A1 hk2 e7 hD3 hL3 hx3 hA
            have hkr : k2 < (rest.eraseIdx m).length := by have := hRe.1; omega
            obtain ⟨tl, htl, hsl⟩ := hRe.get hkr
            obtain rfl : x = .ref tl := by rw [hx3] at htl; exact Option.some.inj htl
            have ek : (rest.eraseIdx m).getD k2 [] = (rest.eraseIdx m)[k2] := by simp [hkr]
            have hmem : (rest.eraseIdx m)[k2] ∈ rest := List.mem_of_mem_eraseIdx (List.getElem_mem hkr)
            have wln : ((rest.eraseIdx m).getD k2 []).length = M.length := by rw [ek]; exact wW _ hmem
            have aln : ∀ x ∈ (rest.eraseIdx m).getD k2 [], Wd x := by rw [ek]; exact wR _ hmem
            exact ⟨_, rfl, _, rfl, _, rfl, _, rfl, tp, tl, kk', kk', rest.getD m [], (rest.eraseIdx m).getD k2 [], i, s, rfl, same_k (e36.trans e7) hsp, same_k e7 hsl, by omega, by omega, by omega, apw, aln, wS,
              fun D4 H8 e8 hn hL4 => hA _ _ e8 fun u => lst_new hL3 hn hL4⟩
          · intro D3 ys H7 e7 hD3 hL3 hj3
            rw [range_getD' (fun l => PyData.list ((clr (rest.getD m []) l i s).map .int)) [] (rest.eraseIdx m) _ hRe.1] at hj3
            have hrows : RowsK K H7 false ys (nextRest i m rest s) := jd_lsts (by simpa [nextRest, List.map_map, Function.comp_def] using hj3)
            have hpi : i < (rest.getD m []).length := by omega
            refine ⟨_, rfl, _, rfl, ix_k (same_k (e36.trans e7) hsp) (irow_get hpi) ?_⟩
            refine ⟨hi, e2.trans (e36.trans e7), D3, ys, nextRest i m rest s, _, _, false, _, _, _, rfl, .inl (.inl hL3), hrows, ?_, hG2, ?_, apw _ (mem_getD hpi)⟩
            · rw [← hd, detGo_some ep]
            · split <;> omega
    · rintro σ H2 ⟨_, e2, r, ls', rest, s, g, kk', x4, x5, x7, rfl, hr', hR, hd, hG, hg1, hs1⟩
      rw [Nat.sub_self] at hd
      have := q _ e2
      rw [← hd] at this
      exact ⟨_, rfl, _, rfl, _, _, rfl, rfl, Wd.mul (Wd.unit (by omega)) hs1, this⟩
end
end K06

set_option maxHeartbeats 400000
namespace K06
open PySem PySem.Spec PyProof.Rows L2 My ZN
section
variable {P : Program} {w : World} {K : PySem.W.Frag} {mg : Str → Option Value} {base : Heap} {A : Adr}
/-- n rows of n integers, tuples in a tuple or a list -/
def SqAt (K : PySem.W.Frag) (H : Hp) (a : Addr) (n : Nat) (M : List (List Int)) : Prop := ∃ k ls, SqK k K H a ls ∧ RowsK K H true ls M ∧ Sq n M
def sp_det (K : PySem.W.Frag) (n : Nat) (d : List (List Int) → Int) : Sp := fun vs H Q _ => ∃ a M, vs = [.ref a] ∧ SqAt K H a n M ∧ Ab BB M ∧ ∀ H', Same H H' → Q (.int (d M)) H'
theorem rows_at {H : Hp} {ls : List V} {M : List (List Int)} {n : Nat} (h : RowsK K H true ls M) (s : Sq n M) {i : Nat} (hi : i < n) : ∃ t, ls[i]? = some (.ref t) ∧ SqT K H t (irow (M.getD i [])) ∧ (M.getD i []).length = n := by
  obtain ⟨t, h1, h2⟩ := h.get (by rw [s.len]; exact hi)
  exact ⟨t, h1, h2, row_of s hi⟩
theorem ok_determinant_of_two (T : Txt K mg A) : FnOk P w K mg base CX0 1 A.a_determinant_of_two A.d_determinant_of_two ["lines"] (sp_det K 2 det2) := by
  refine T.f_determinant_of_two.ok sc_determinant_of_two (fun vs H Q E h => ?_) (fun cdv B out t H vs Q E hr h => ?_)
  · obtain ⟨a, M, rfl, _⟩ := h
    rfl
  · obtain ⟨a, M, rfl, ⟨k, ls, hs, hR, sM⟩, hb, q⟩ := h
    refine ⟨_, (pss_cons (ps_asg (pv 0) (ZN.pg_seq (by rfl) (pgs_cons (pg_tup (by rfl) (pgs_cons (pg_name (i := 1) sc_determinant_of_two.nd rfl (Or.inl rfl)) (pgs_cons (pg_name (i := 2) sc_determinant_of_two.nd rfl (Or.inl rfl)) pgs_nil))) (pgs_cons (pg_tup (by rfl) (pgs_cons (pg_name (i := 3) sc_determinant_of_two.nd rfl (Or.inl rfl)) (pgs_cons (pg_name (i := 4) sc_determinant_of_two.nd rfl (Or.inl rfl)) pgs_nil))) pgs_nil))))
      (pss_one (ps_ret (pe_op op_sub (pe_op op_mulW (pv 1) (pv 4)) (pe_op op_mulW (pv 2) (pv 3)))))), ?_⟩
    obtain ⟨a, b, rfl⟩ := len2 sM.len
    obtain ⟨l0, l1, rfl⟩ := len2 (hR.1.trans sM.len)
    obtain ⟨t0, e0, h0, n0⟩ := rows_at hR sM (show 0 < 2 by decide)
    obtain ⟨t1, e1, h1, n1⟩ := rows_at hR sM (show 1 < 2 by decide)
    obtain rfl : l0 = .ref t0 := Option.some.inj e0
    obtain rfl : l1 = .ref t1 := Option.some.inj e1
    obtain ⟨x, y, rfl⟩ := len2 (show a.length = 2 from n0)
    obtain ⟨z, u, rfl⟩ := len2 (show b.length = 2 from n1)
    refine ⟨_, rfl, gSq_of hs rfl ⟨_, _, rfl, t0, _, rfl, h0, rfl, _, _, rfl, _, _, rfl, rfl, _, _, rfl, t1, _, rfl, h1, rfl, _, _, rfl, _, _, rfl, rfl, rfl, ?_⟩⟩
    have b0 : ∀ v ∈ [x, y], v.natAbs ≤ BB := hb _ (by simp)
    have b1 : ∀ v ∈ [z, u], v.natAbs ≤ BB := hb _ (by simp)
    exact ev_sub (ev_mul (ev_var rfl) (ev_var rfl) (Wd.mul (bb_wd (b0 x (by simp))) (bb_wd (b1 u (by simp))))) (ev_mul (ev_var rfl) (ev_var rfl) (Wd.mul (bb_wd (b0 y (by simp))) (bb_wd (b1 z (by simp))))) _ (q _ (Same.refl _))
theorem ok_determinant_of_three (T : Txt K mg A) : FnOk P w K mg base CX0 1 A.a_determinant_of_three A.d_determinant_of_three ["lines"] (sp_det K 3 det3) := by
  refine T.f_determinant_of_three.ok sc_determinant_of_three (fun vs H Q E h => ?_) (fun cdv B out t H vs Q E hr h => ?_)
  · obtain ⟨a, M, rfl, _⟩ := h
    rfl
  · obtain ⟨a0, M, rfl, ⟨k, ls, hs, hR, sM⟩, hb, q⟩ := h
    refine ⟨_, (pss_cons (ps_asg (pv 0) (ZN.pg_seq (by rfl) (pgs_cons (pg_tup (by rfl) (pgs_cons (pg_name (i := 1) sc_determinant_of_three.nd rfl (Or.inl rfl)) (pgs_cons (pg_name (i := 2) sc_determinant_of_three.nd rfl (Or.inl rfl)) (pgs_cons (pg_name (i := 3) sc_determinant_of_three.nd rfl (Or.inl rfl)) pgs_nil)))) (pgs_cons (pg_name (i := 4) sc_determinant_of_three.nd rfl (Or.inl rfl)) (pgs_cons (pg_name (i := 5) sc_determinant_of_three.nd rfl (Or.inl rfl)) pgs_nil)))))
      (pss_one (ps_ret (pe_op op_add (pe_op op_sub (pe_op op_mulW (pv 1) (pe_op op_sub (pe_op op_mulW (pe_ix ix_seq (pv 4) pe_int (fun _ _ => rfl)) (pe_ix ix_seq (pv 5) pe_int (fun _ _ => rfl))) (pe_op op_mulW (pe_ix ix_seq (pv 4) pe_int (fun _ _ => rfl)) (pe_ix ix_seq (pv 5) pe_int (fun _ _ => rfl))))) (pe_op op_mulW (pv 2) (pe_op op_sub (pe_op op_mulW (pe_ix ix_seq (pv 4) pe_int (fun _ _ => rfl)) (pe_ix ix_seq (pv 5) pe_int (fun _ _ => rfl))) (pe_op op_mulW (pe_ix ix_seq (pv 4) pe_int (fun _ _ => rfl)) (pe_ix ix_seq (pv 5) pe_int (fun _ _ => rfl)))))) (pe_op op_mulW (pv 3) (pe_op op_sub (pe_op op_mulW (pe_ix ix_seq (pv 4) pe_int (fun _ _ => rfl)) (pe_ix ix_seq (pv 5) pe_int (fun _ _ => rfl))) (pe_op op_mulW (pe_ix ix_seq (pv 4) pe_int (fun _ _ => rfl)) (pe_ix ix_seq (pv 5) pe_int (fun _ _ => rfl))))))))), ?_⟩
    obtain ⟨a, b, c, rfl⟩ := len3 sM.len
    obtain ⟨l0, l1, l2, rfl⟩ := len3 (hR.1.trans sM.len)
    obtain ⟨t0, e0, h0, n0⟩ := rows_at hR sM (show 0 < 3 by decide)
    obtain ⟨t1, e1, h1, n1⟩ := rows_at hR sM (show 1 < 3 by decide)
    obtain ⟨t2, e2, h2, n2⟩ := rows_at hR sM (show 2 < 3 by decide)
    obtain rfl : l0 = .ref t0 := Option.some.inj e0
    obtain rfl : l1 = .ref t1 := Option.some.inj e1
    obtain rfl : l2 = .ref t2 := Option.some.inj e2
    obtain ⟨x, y, z, rfl⟩ := len3 (show a.length = 3 from n0)
    have n1 : b.length = 3 := n1
    have n2 : c.length = 3 := n2
    refine ⟨_, rfl, gSq_of hs rfl ⟨_, _, rfl, t0, _, rfl, h0, rfl, _, _, rfl, _, _, rfl, _, _, rfl, rfl, _, _, rfl, _, _, rfl, rfl, ?_⟩⟩
    have b0 : ∀ v ∈ [x, y, z], v.natAbs ≤ BB := hb _ (by simp)
    have b1 : Rb BB b := hb _ (by simp)
    have b2 : Rb BB c := hb _ (by simp)
    have two : ∀ i j, i < 3 → j < 3 → Ev (tOp (rI0 fun i j => .int (i - j)) (tOp (rI CMulW fun i j => .int (i * j)) (tOp (rIx K) (tVar 4) (tC (.int (i : Nat)))) (tOp (rIx K) (tVar 5) (tC (.int (j : Nat)))))
      (tOp (rI CMulW fun i j => .int (i * j)) (tOp (rIx K) (tVar 4) (tC (.int (j : Nat)))) (tOp (rIx K) (tVar 5) (tC (.int (i : Nat)))))) [some (.ref a0), some (.int x), some (.int y), some (.int z), some (.ref t1), some (.ref t2)] H (.int (tw b c i j)) := fun i j hi hj =>
      ev_two rfl h1 rfl h2 b1 b2 (by omega) (by omega) (by omega) (by omega)
    have m : ∀ v ∈ [x, y, z], ∀ i j, CMulW v (tw b c i j) := fun v hv i j => Wd.mul (bb_wd (b0 v hv)) (bb_wd (tw_abs b1 b2))
    exact ev_add (ev_sub (ev_mul (ev_var rfl) (two 1 2 (by decide) (by decide)) (m x (by simp) 1 2)) (ev_mul (ev_var rfl) (two 0 2 (by decide) (by decide)) (m y (by simp) 0 2)))
      (ev_mul (ev_var rfl) (two 0 1 (by decide) (by decide)) (m z (by simp) 0 1)) _ (q _ (Same.refl _))
theorem ok_determinant_of_four (T : Txt K mg A) : FnOk P w K mg base CX0 1 A.a_determinant_of_four A.d_determinant_of_four ["lines"] (sp_det K 4 det4) := by
  refine T.f_determinant_of_four.ok sc_determinant_of_four (fun vs H Q E h => ?_) (fun cdv B out t H vs Q E hr h => ?_)
  · obtain ⟨a, M, rfl, _⟩ := h
    rfl
  · obtain ⟨a0, M, rfl, ⟨k, ls, hs, hR, sM⟩, hb, q⟩ := h
    refine ⟨_, (pss_cons (ps_asg (pv 0) (ZN.pg_seq (by rfl) (pgs_cons (pg_name (i := 1) sc_determinant_of_four.nd rfl (Or.inl rfl)) (pgs_cons (pg_name (i := 2) sc_determinant_of_four.nd rfl (Or.inl rfl)) (pgs_cons (pg_name (i := 3) sc_determinant_of_four.nd rfl (Or.inl rfl)) (pgs_cons (pg_name (i := 4) sc_determinant_of_four.nd rfl (Or.inl rfl)) pgs_nil))))))
      (pss_one (ps_ret (pe_op op_add (pe_op op_sub (pe_op op_add (pe_op op_add (pe_op op_sub (pe_op op_mulW (pe_op op_sub (pe_op op_mulW (pe_ix ix_seq (pv 1) pe_int (fun _ _ => rfl)) (pe_ix ix_seq (pv 2) pe_int (fun _ _ => rfl))) (pe_op op_mulW (pe_ix ix_seq (pv 1) pe_int (fun _ _ => rfl)) (pe_ix ix_seq (pv 2) pe_int (fun _ _ => rfl)))) (pe_op op_sub (pe_op op_mulW (pe_ix ix_seq (pv 3) pe_int (fun _ _ => rfl)) (pe_ix ix_seq (pv 4) pe_int (fun _ _ => rfl))) (pe_op op_mulW (pe_ix ix_seq (pv 3) pe_int (fun _ _ => rfl)) (pe_ix ix_seq (pv 4) pe_int (fun _ _ => rfl))))) (pe_op op_mulW (pe_op op_sub (pe_op op_mulW (pe_ix ix_seq (pv 1) pe_int (fun _ _ => rfl)) (pe_ix ix_seq (pv 2) pe_int (fun _ _ => rfl))) (pe_op op_mulW (pe_ix ix_seq (pv 1) pe_int (fun _ _ => rfl)) (pe_ix ix_seq (pv 2) pe_int (fun _ _ => rfl)))) (pe_op op_sub (pe_op op_mulW (pe_ix ix_seq (pv 3) pe_int (fun _ _ => rfl)) (pe_ix ix_seq (pv 4) pe_int (fun _ _ => rfl))) (pe_op op_mulW (pe_ix ix_seq (pv 3) pe_int (fun _ _ => rfl)) (pe_ix ix_seq (pv 4) pe_int (fun _ _ => rfl)))))) (pe_op op_mulW (pe_op op_sub (pe_op op_mulW (pe_ix ix_seq (pv 1) pe_int (fun _ _ => rfl)) (pe_ix ix_seq (pv 2) pe_int (fun _ _ => rfl))) (pe_op op_mulW (pe_ix ix_seq (pv 1) pe_int (fun _ _ => rfl)) (pe_ix ix_seq (pv 2) pe_int (fun _ _ => rfl)))) (pe_op op_sub (pe_op op_mulW (pe_ix ix_seq (pv 3) pe_int (fun _ _ => rfl)) (pe_ix ix_seq (pv 4) pe_int (fun _ _ => rfl))) (pe_op op_mulW (pe_ix ix_seq (pv 3) pe_int (fun _ _ => rfl)) (pe_ix ix_seq (pv 4) pe_int (fun _ _ => rfl)))))) (pe_op op_mulW (pe_op op_sub (pe_op op_mulW (pe_ix ix_seq (pv 1) pe_int (fun _ _ => rfl)) (pe_ix ix_seq (pv 2) pe_int (fun _ _ => rfl))) (pe_op op_mulW (pe_ix ix_seq (pv 1) pe_int (fun _ _ => rfl)) (pe_ix ix_seq (pv 2) pe_int (fun _ _ => rfl)))) (pe_op op_sub (pe_op op_mulW (pe_ix ix_seq (pv 3) pe_int (fun _ _ => rfl)) (pe_ix ix_seq (pv 4) pe_int (fun _ _ => rfl))) (pe_op op_mulW (pe_ix ix_seq (pv 3) pe_int (fun _ _ => rfl)) (pe_ix ix_seq (pv 4) pe_int (fun _ _ => rfl)))))) (pe_op op_mulW (pe_op op_sub (pe_op op_mulW (pe_ix ix_seq (pv 1) pe_int (fun _ _ => rfl)) (pe_ix ix_seq (pv 2) pe_int (fun _ _ => rfl))) (pe_op op_mulW (pe_ix ix_seq (pv 1) pe_int (fun _ _ => rfl)) (pe_ix ix_seq (pv 2) pe_int (fun _ _ => rfl)))) (pe_op op_sub (pe_op op_mulW (pe_ix ix_seq (pv 3) pe_int (fun _ _ => rfl)) (pe_ix ix_seq (pv 4) pe_int (fun _ _ => rfl))) (pe_op op_mulW (pe_ix ix_seq (pv 3) pe_int (fun _ _ => rfl)) (pe_ix ix_seq (pv 4) pe_int (fun _ _ => rfl)))))) (pe_op op_mulW (pe_op op_sub (pe_op op_mulW (pe_ix ix_seq (pv 1) pe_int (fun _ _ => rfl)) (pe_ix ix_seq (pv 2) pe_int (fun _ _ => rfl))) (pe_op op_mulW (pe_ix ix_seq (pv 1) pe_int (fun _ _ => rfl)) (pe_ix ix_seq (pv 2) pe_int (fun _ _ => rfl)))) (pe_op op_sub (pe_op op_mulW (pe_ix ix_seq (pv 3) pe_int (fun _ _ => rfl)) (pe_ix ix_seq (pv 4) pe_int (fun _ _ => rfl))) (pe_op op_mulW (pe_ix ix_seq (pv 3) pe_int (fun _ _ => rfl)) (pe_ix ix_seq (pv 4) pe_int (fun _ _ => rfl))))))))), ?_⟩
    obtain ⟨a, b, c, d, rfl⟩ := len4 sM.len
    obtain ⟨l0, l1, l2, l3, rfl⟩ := len4 (hR.1.trans sM.len)
    obtain ⟨t0, e0, h0, n0⟩ := rows_at hR sM (show 0 < 4 by decide)
    obtain ⟨t1, e1, h1, n1⟩ := rows_at hR sM (show 1 < 4 by decide)
    obtain ⟨t2, e2, h2, n2⟩ := rows_at hR sM (show 2 < 4 by decide)
    obtain ⟨t3, e3, h3, n3⟩ := rows_at hR sM (show 3 < 4 by decide)
    obtain rfl : l0 = .ref t0 := Option.some.inj e0
    obtain rfl : l1 = .ref t1 := Option.some.inj e1
    obtain rfl : l2 = .ref t2 := Option.some.inj e2
    obtain rfl : l3 = .ref t3 := Option.some.inj e3
    have n0 : a.length = 4 := n0
    have n1 : b.length = 4 := n1
    have n2 : c.length = 4 := n2
    have n3 : d.length = 4 := n3
    have b0 : Rb BB a := hb _ (by simp)
    have b1 : Rb BB b := hb _ (by simp)
    have b2 : Rb BB c := hb _ (by simp)
    have b3 : Rb BB d := hb _ (by simp)
    refine ⟨_, rfl, gSq_of hs rfl ⟨_, _, rfl, _, _, rfl, _, _, rfl, _, _, rfl, rfl, ?_⟩⟩
    exact fin4 rfl rfl h0 h1 h2 h3 n0 n1 n2 n3 b0 b1 b2 b3 (q H (Same.refl _))
end
end K06

set_option maxHeartbeats 400000
namespace K06
open PySem PySem.Spec PyProof.Rows L2 My ZN
section
variable {P : Program} {w : World} {K : PySem.W.Frag} {mg : Str → Option Value} {base : Heap} {A : Adr}
theorem bb_lt : BB < 2 ^ 399999 := Nat.pow_lt_pow_right (by decide) (by decide)
theorem cdiv_one : CDivA 0 1 := by unfold CDivA; decide
theorem int_ne {n m : Nat} (h : n ≠ m) : ¬ ((n : Int) = (m : Int)) := fun e => h (Int.ofNat.inj e)
def sp_determinant_of (K : PySem.W.Frag) : Sp := fun vs H Q _ => ∃ a n M, vs = [.ref a] ∧ SqAt K H a n M ∧ n ≤ 4 ∧ Ab BB M ∧ ∀ H', Same H H' → Q (.int (detP M)) H'
theorem ok_determinant_of (T : Txt K mg A) : FnOk P w K mg base CX0 3 A.a_determinant_of A.d_determinant_of ["lines"] (sp_determinant_of K) := by
  have G_determinant_of_two : FnOk P w K mg base CX0 1 A.a_determinant_of_two A.d_determinant_of_two ["lines"] (sp_det K 2 det2) := ok_determinant_of_two T
  have G_determinant_of_three : FnOk P w K mg base CX0 1 A.a_determinant_of_three A.d_determinant_of_three ["lines"] (sp_det K 3 det3) := ok_determinant_of_three T
  have G_determinant_of_four : FnOk P w K mg base CX0 1 A.a_determinant_of_four A.d_determinant_of_four ["lines"] (sp_det K 4 det4) := ok_determinant_of_four T
  have G_eliminated_determinant : FnOk P w K mg base CX0 2 A.a_eliminated_determinant A.d_eliminated_determinant ["lines"] (sp_eliminated_determinant K) := ok_eliminated_determinant T
  refine T.f_determinant_of.ok sc_determinant_of (fun vs H Q E h => ?_) (fun cdv B out t H vs Q E hr h => ?_)
  · obtain ⟨a, n, M, rfl, _⟩ := h
    rfl
  · obtain ⟨a, n, M, rfl, ⟨k, ls, hs, hR, sM⟩, h4, hb, q⟩ := h
    refine ⟨_, (pss_cons (ps_set (i := 1) sc_determinant_of.nd rfl (Or.inl rfl) (pe_callB call_len_seq (by rfl) T.n_len (by decide +kernel) (pa_cons (pv 0) pa_nil)))
      (pss_cons (ps_if (pt_cmpR op_eq (pv 1) pe_int (nomark _)) (pss_one (ps_ret (pe_call G_determinant_of_two (hr.mono (by decide)) (by rfl) T.g_determinant_of_two T.f_determinant_of_two.kp (b_determinant_of_two T) .nil pass0 (pa_cons (pv 0) pa_nil)))) pss_nil)
      (pss_cons (ps_if (pt_cmpR op_eq (pv 1) pe_int (nomark _)) (pss_one (ps_ret (pe_call G_determinant_of_three (hr.mono (by decide)) (by rfl) T.g_determinant_of_three T.f_determinant_of_three.kp (b_determinant_of_three T) .nil pass0 (pa_cons (pv 0) pa_nil)))) pss_nil)
      (pss_cons (ps_if (pt_cmpR op_eq (pv 1) pe_int (nomark _)) (pss_one (ps_ret (pe_call G_determinant_of_four (hr.mono (by decide)) (by rfl) T.g_determinant_of_four T.f_determinant_of_four.kp (b_determinant_of_four T) .nil pass0 (pa_cons (pv 0) pa_nil)))) pss_nil)
      (pss_one (ps_ret (pe_call G_eliminated_determinant (hr.mono (by decide)) (by rfl) T.g_eliminated_determinant T.f_eliminated_determinant.kp (b_eliminated_determinant T) .nil pass0 (pa_cons (pv 0) pa_nil)))))))), ?_⟩
    have hl : ls.length = n := hR.1.trans sM.len
    refine ⟨_, rfl, a, ls, rfl, by cases k
                                   · exact .inl hs
                                   · exact .inr hs, ?_⟩
    rw [hl]
    refine ⟨_, rfl, rfl, _, rfl, ?_⟩
    by_cases c2 : n = 2
    · subst c2
      refine if_pos_of (by decide) ?_
      exact ⟨_, rfl, a, M, rfl, ⟨k, ls, hs, hR, sM⟩, hb, fun H' e => detP_2 sM ▸ q H' e⟩
    refine if_neg_of (by rw [dec_int]; exact decide_eq_false (int_ne c2)) ?_
    refine ⟨_, rfl, rfl, _, rfl, ?_⟩
    by_cases c3 : n = 3
    · subst c3
      refine if_pos_of (by decide) ?_
      exact ⟨_, rfl, a, M, rfl, ⟨k, ls, hs, hR, sM⟩, hb, fun H' e => detP_3 sM ▸ q H' e⟩
    refine if_neg_of (by rw [dec_int]; exact decide_eq_false (int_ne c3)) ?_
    refine ⟨_, rfl, rfl, _, rfl, ?_⟩
    by_cases c4 : n = 4
    · subst c4
      refine if_pos_of (by decide) ?_
      exact ⟨_, rfl, a, M, rfl, ⟨k, ls, hs, hR, sM⟩, hb, fun H' e => detP_4 sM ▸ q H' e⟩
    refine if_neg_of (by rw [dec_int]; exact decide_eq_false (int_ne c4)) ?_
    have n1 : n = 1 := by have := sM.pos; omega
    subst n1
    have ed : detP M = detL M := by simp [detP, sM.len]
    rw [ed] at q
    refine ⟨_, rfl, a, k, true, ls, M, rfl, hs, hR, sM.lt, ?_, q⟩
    rw [sM.len]
    exact ⟨hb.wd bb_lt, cdiv_one, sM.row, by decide, by decide, sM.lt, fun _ _ => trivial⟩
end
end K06

set_option maxHeartbeats 400000
namespace My
open PySem PySem.Spec PyProof.Rows L2 ZN
theorem tup_new {K : PySem.W.Frag} {H1 H2 : Hp} {D l : Addr} {u : HO} {acc : List V} {ns : List Int} (hD : H1 D = some (.lst acc)) (hl : H1 l = none) (h : H2 l = some (.tup (irow ns))) : Jd K (upd H2 D u) (.ref l) (rowD ns) := by
  refine row_jd (.inl (.inl ?_))
  rw [upd_ne (fun e => by subst e; rw [hD] at hl; cases hl)]
  exact h
theorem rows_k {K : PySem.W.Frag} {H : Hp} {ls : List V} {M : List (List Int)} (h : RowsAt K H ls (M.map irow)) : RowsK K H true ls M :=
  ⟨by have := h.1; simpa using this, fun j r hj => h.2 j (irow r) (by rw [List.getElem?_map, hj]; rfl)⟩
theorem rows_at' {K : PySem.W.Frag} {H : Hp} {ls : List V} {M : List (List Int)} (h : RowsK K H true ls M) : RowsAt K H ls (M.map irow) :=
  ⟨by simpa using h.1, fun j r hj => by
    rw [List.getElem?_map, Option.map_eq_some_iff] at hj
    obtain ⟨r0, h1, rfl⟩ := hj
    exact h.2 j r0 h1⟩
theorem minor_sq {n : Nat} {M : List (List Int)} (s : Sq n M) {i j : Nat} (hi : i < n) (hj : j < n) (h2 : 2 ≤ n) : Sq (n - 1) (minorM M i j) := by
  refine ⟨minor_len s hi, fun r hr => ?_, by omega, by have := s.few; omega⟩
  simp only [minorM, List.mem_map] at hr
  obtain ⟨l, hl, rfl⟩ := hr
  have := s.row l (List.mem_of_mem_eraseIdx hl)
  rw [List.length_eraseIdx, if_pos (by omega), this]
end My
namespace K06
open PySem PySem.Spec PyProof.Rows L2 My ZN
section
variable {P : Program} {w : World} {K : PySem.W.Frag} {mg : Str → Option Value} {base : Heap} {A : Adr}
theorem SqAt.mt {H : Hp} {v : V} {n : Nat} {M : List (List Int)} (h : MtAt K H true v M) (s : Sq n M) : ∃ a, v = .ref a ∧ SqAt K H a n M := by
  obtain ⟨a, ls, rfl, hs, hr⟩ := h
  exact ⟨a, rfl, true, ls, hs, rows_k hr, s⟩
def sp_minor (K : PySem.W.Frag) : Sp := fun vs H Q _ => ∃ v M n i j, vs = [v, .int (i : Nat), .int (j : Nat)] ∧ MtAt K H true v M ∧ Sq n M ∧ 2 ≤ n ∧ n ≤ 4 ∧ i < n ∧ j < n ∧ Ab BB M ∧
  ∀ H', Same H H' → Q (.int (detP (minorM M i j))) H'
theorem ok_minor (T : Txt K mg A) : FnOk P w K mg base CX0 4 A.a_minor A.d_minor ["lines", "row", "column"] (sp_minor K) := by
  have G_without : FnOk P w K mg base CX0 1 A.a_without A.d_without ["things", "index"] (sp_without K) := ok_without T
  have G_determinant_of : FnOk P w K mg base CX0 3 A.a_determinant_of A.d_determinant_of ["lines"] (sp_determinant_of K) := ok_determinant_of T
  refine T.f_minor.ok sc_minor (fun vs H Q E h => ?_) (fun cdv B out t H vs Q E hr h => ?_)
  · obtain ⟨v, M, n, i, j, rfl, _⟩ := h
    rfl
  · obtain ⟨v, M, n, i, j, rfl, hM, sM, h2, h4, hi, hj, hb, q⟩ := h
    obtain ⟨a, ls, rfl, hs, hr0⟩ := hM
    have hR := rows_k hr0
    have hll : ls.length = n := hR.1.trans sM.len
    refine ⟨_, (pss_one (ps_ret (pe_call G_determinant_of (hr.mono (by decide)) (by rfl) T.g_determinant_of T.f_determinant_of.kp (b_determinant_of T) .nil pass0 (pa_cons (pe_lc (own := [("line", 3)]) (g := (gName 3)) (tt := tYes)  rfl sc_minor.nd (pi_tup (pe_call G_without (hr.mono (by decide)) (by rfl) T.g_without T.f_without.kp (b_without T) .nil pass0 (pa_cons (pv 0) (pa_cons (pv 1) pa_nil)))) (blkOk_by (own := [("line", 3)]) (N := names_minor) (sc := defScope s_minor) (by decide +kernel)) (fun _ _ _ _ _ => (pg_name (i := 3) sc_minor.nd rfl (Or.inl rfl))) (fun _ _ _ _ _ => pts_nil) (fun _ _ _ _ _ => by apply My.pe_eq; (case h => exact (pe_call G_without (hr.mono (by decide)) (by rfl) T.g_without T.f_without.kp (b_without T) .nil pass0 (pa_cons (pv 3) (pa_cons (pv 2) pa_nil)))); all_goals (first | exact rfl | (dsimp only [L2.Cx.blk, L2.Cx.nox, L2.cxOf]; done) | (dsimp only [L2.Cx.blk, L2.Cx.nox, L2.cxOf]; exact rfl)))) pa_nil)))), ?_⟩
    dsimp only [tRet, tCall, tCons, tNil]
    rw [tLc_eq]
    refine ⟨_, rfl, _, rfl, a, true, ls, i, rfl, hs, by omega, by have := sM.few; omega, fun D2 H2 e2 hD2 hL2 => ⟨D2, rfl, ⟨_, .inl (.inl hL2)⟩, ?_⟩⟩
    have hRe := (hR.mono e2).erase i
    have hse : SqT K H2 D2 (ls.eraseIdx i) := .inl (.inl hL2)
    have hle : (M.eraseIdx i).length ≤ M.length := List.length_eraseIdx_le ..
    have hz := sM.lt
    unfold LcAt
    refine comp_one (K := K) (walk_tup (a := D2) (xs := ls.eraseIdx i)) (fun m => rowD (((M.eraseIdx i).getD m []).eraseIdx j)) (by rw [hRe.1]; omega) (fun H' e => same_t e hse) (fun R q0 => q0) (fun x => rfl) ?_ ?_
    · intro m x D3 acc H3 A1 hm e3 hD3 hL3 hx3 hA
      have hmr : m < (M.eraseIdx i).length := by have := hRe.1; omega
      obtain ⟨tl, htl, hsl⟩ := hRe.get hmr
      obtain rfl : x = .ref tl := by rw [hx3] at htl; exact Option.some.inj htl
      have em : (M.eraseIdx i).getD m [] = (M.eraseIdx i)[m] := by simp [hmr]
      have hl : ((M.eraseIdx i).getD m []).length = n := by rw [em]; exact sM.row _ (List.mem_of_mem_eraseIdx (List.getElem_mem hmr))
      have hl2 : (irow ((M.eraseIdx i).getD m [])).length = n := by simpa [irow] using hl
      refine ⟨_, rfl, _, rfl, tl, true, irow ((M.eraseIdx i).getD m []), j, rfl, same_k e3 hsl, by omega, by have := sM.few; omega, fun D4 H4 e4 hn hL4 => ?_⟩
      rw [irow_erase] at hL4
      exact hA _ _ e4 fun u => tup_new hL3 hn hL4
    · intro D3 ys H3 e3 hD3 hL3 hj3
      rw [range_getD' (fun l : List Int => rowD (l.eraseIdx j)) [] (M.eraseIdx i) _ hRe.1] at hj3
      have hrows : RowsK K H3 true ys (minorM M i j) := rows_k (jd_rows (by simpa [minorM, List.map_map, Function.comp_def] using hj3))
      exact ⟨D3, n - 1, minorM M i j, rfl, ⟨false, ys, .inl (.inl hL3), hrows, minor_sq sM hi hj h2⟩, by omega, hb.minor _ _, fun H4 e4 => q H4 (e2.trans (e3.trans e4))⟩
end
end K06

set_option maxHeartbeats 400000
namespace My
theorem minor_wd {n : Nat} (h4 : N4 n) {M : List (List Int)} (s : Sq n M) (hb : Ab BB M) {i j : Nat} (hi : i < n) (hj : j < n) : Wd (detP (minorM M i j)) := by
  rcases h4 with rfl | rfl | rfl
  · rw [minor_2 s hi hj]
    exact bb_wd (hb.en _ _)
  · rw [minor_3 s hi]
    exact bb_wd (det2_ab (hb.minor _ _))
  · rw [minor_4 s hi]
    exact bb_wd (det3_ab (hb.minor _ _))
theorem N4.two {n : Nat} (h : N4 n) : 2 ≤ n := by rcases h with rfl | rfl | rfl <;> decide
theorem N4.four {n : Nat} (h : N4 n) : n ≤ 4 := by rcases h with rfl | rfl | rfl <;> decide
theorem adj_wd {n : Nat} (h4 : N4 n) {M : List (List Int)} (s : Sq n M) (hb : Ab BB M) : AllW (adjP M) := by
  intro r hr x hx
  rw [adjP_mk, s.len] at hr
  simp only [mkM, List.mem_map, List.mem_range] at hr
  obtain ⟨i, hi, rfl⟩ := hr
  obtain ⟨j, hj, rfl⟩ := List.mem_map.mp hx
  have hj := List.mem_range.mp hj
  have w := minor_wd h4 s hb hj hi
  unfold Wd at *
  unfold sg
  split <;> omega
end My
namespace K06
open PySem PySem.Spec PyProof.Rows L2 My ZN
section
variable {P : Program} {w : World} {K : PySem.W.Frag} {mg : Str → Option Value} {base : Heap} {A : Adr}
def sp_adjugate (K : PySem.W.Frag) : Sp := fun vs H Q _ => ∃ v M n, vs = [v] ∧ MtAt K H true v M ∧ Sq n M ∧ N4 n ∧ Ab BB M ∧ ∀ v' H', Same H H' → MtAt K H' true v' (adjP M) → Q v' H'
theorem ok_adjugate (T : Txt K mg A) : FnOk P w K mg base CX0 5 A.a_adjugate A.d_adjugate ["lines"] (sp_adjugate K) := by
  have G_minor : FnOk P w K mg base CX0 4 A.a_minor A.d_minor ["lines", "row", "column"] (sp_minor K) := ok_minor T
  refine T.f_adjugate.ok sc_adjugate (fun vs H Q E h => ?_) (fun cdv B out t H vs Q E hr h => ?_)
  · obtain ⟨v, M, n, rfl, _⟩ := h
    rfl
  · obtain ⟨v, M, n, rfl, hM, sM, h4, hb, q⟩ := h
    have hz := sM.lt
    refine ⟨_, (pss_cons (ps_set (i := 1) sc_adjugate.nd rfl (Or.inr rfl) (pe_callB call_len_seq (by rfl) T.n_len (by decide +kernel) (pa_cons (pv 0) pa_nil)))
      (pss_one (ps_ret (pe_callTy call_tuple_of (by rfl) T.n_tuple (by decide +kernel) (pa_cons (pe_lc (own := [("row", 3)]) (g := (gName 3)) (tt := tYes)  rfl sc_adjugate.nd (pi_range1 (by rfl) T.n_range (pa_cons (pv 1) pa_nil)) (blkOk_by (own := [("row", 3)]) (N := names_adjugate) (sc := defScope s_adjugate) (by decide +kernel)) (fun _ _ _ _ _ => (pg_name (i := 3) sc_adjugate.nd rfl (Or.inr rfl))) (fun _ _ _ _ _ => pts_nil) (fun _ _ _ _ _ => by apply My.pe_eq; (case h => exact (pe_callTy call_tuple_of (by rfl) T.n_tuple (by decide +kernel) (pa_cons (by exact (pe_lc (own := [("column", 2)]) (g := (gName 2)) (tt := tYes)  rfl sc_adjugate.nd (pi_range1 (by rfl) T.n_range (pa_cons (pv 1) pa_nil)) (by (exact L2.blkOk_by (by kernel_rfl))) (fun _ _ _ _ _ => (pg_name (i := 2) sc_adjugate.nd rfl (Or.inl rfl))) (fun _ _ _ _ _ => pts_nil) (fun _ _ _ _ _ => by apply My.pe_eq; (case h => exact (pe_op op_mulW (pe_ifExp (pt_truth (pe_op op_and (pe_op op_add (pv 3) (pv 2)) pe_int) (by intro _; rfl)) (pe_un un_neg pe_int) pe_int) (pe_call G_minor (hr.mono (by decide)) (by rfl) T.g_minor T.f_minor.kp (b_minor T) .nil pass0 (pa_cons (pv 0) (pa_cons (pv 2) (pa_cons (pv 3) pa_nil)))))); all_goals (first | exact rfl | (dsimp only [L2.Cx.blk, L2.Cx.nox, L2.cxOf]; done) | (dsimp only [L2.Cx.blk, L2.Cx.nox, L2.cxOf]; exact rfl))))) pa_nil))); all_goals (first | exact rfl | (dsimp only [L2.Cx.blk, L2.Cx.nox, L2.cxOf]; done) | (dsimp only [L2.Cx.blk, L2.Cx.nox, L2.cxOf]; exact rfl)))) pa_nil))))), ?_⟩
    obtain ⟨a, ls, ev, ha, hlM, _⟩ := hM.sq
    subst ev
    refine ⟨_, rfl, a, ls, rfl, .inr ha, ?_⟩
    dsimp only [gName, tRet, tCB, tCons, tNil]
    rw [tLc_eq]
    have hl62 : ((ls.length : Nat) : Int) < 2 ^ 62 := by omega
    have hlen : (Int.toNat ((ls.length : Nat) : Int)) = M.length := by rw [← hlM]; rfl
    refine ⟨_, rfl, _, rfl, by omega, hl62, ?_⟩
    rw [hlen]
    unfold LcAt
    refine comp_rng (K := K) (walk_range (lo := 0) (n := M.length)) (fun r => rowD ((List.range M.length).map fun c => sg r c * detP (minorM M c r))) hz (fun _ _ => trivial) (fun R q0 => q0) (fun x => rfl) ?_ ?_
    · intro r D acc H1 A1 hr1 e1 hD hL hA
      dsimp only [tCB, tCons, tNil]
      rw [tLc_eq]
      refine ⟨_, rfl, _, rfl, by omega, hl62, ?_⟩
      rw [hlen, Int.zero_add]
      unfold LcAt
      refine comp_rng (K := K) (walk_range (lo := 0) (n := M.length)) (fun c => .int (sg r c * detP (minorM M c r))) hz (fun _ _ => trivial) (fun R q0 => q0) (fun x => rfl) ?_ ?_
      · intro c D2 acc2 H2 A2 hc2 e2 hD2 hL2 hA2
        rw [Int.zero_add]
        refine ⟨_, rfl, _, rfl, _, _, rfl, rfl, _, _, rfl, rfl, _, rfl, sign_c ?_⟩
        refine ⟨_, rfl, _, rfl, _, rfl, _, M, n, c, r, rfl, hM.mono (e1.trans e2), sM, h4.two, h4.four, by rw [← sM.len]; exact hc2, by rw [← sM.len]; exact hr1, hb, fun H3 e3 => ?_⟩
        exact ⟨_, _, rfl, rfl, Wd.mul sgn_wd (minor_wd h4 sM hb (by rw [← sM.len]; exact hc2) (by rw [← sM.len]; exact hr1)), hA2 _ _ e3 fun u => .int _⟩
      · intro D2 ys H2 e2 hD2 hL2 hj
        have hj2 : JdAll K H2 ys (((List.range M.length).map fun c => sg r c * detP (minorM M c r)).map PyData.int) := by simpa [List.map_map, Function.comp_def] using hj
        rw [jd_ints_inv _ _ hj2] at hL2
        exact ⟨D2, _, rfl, .inl ⟨.inl (.inl hL2), fun l hl => hA _ _ (e2.trans (same_new hl)) fun u => row_new (e2 _ _ hL) hl⟩⟩
    · intro D ys H2 e2 hD hL hj
      have hr2 : RowsAt K H2 ys ((adjP M).map irow) := jd_rows (by simpa [adjP, List.map_map, Function.comp_def] using hj)
      exact ⟨D, _, rfl, .inl ⟨.inl (.inl hL), fun l hl => q _ _ (e2.trans (same_new hl)) ⟨l, ys, rfl, .inl (.inl upd_same), rows_mono (same_new hl) hr2⟩⟩⟩
end
end K06

set_option maxHeartbeats 400000
namespace K06
open PySem PySem.Spec PyProof.Rows L2 My ZN
section
variable {P : Program} {w : World} {K : PySem.W.Frag} {mg : Str → Option Value} {base : Heap} {A : Adr}
def sp_undone (K : PySem.W.Frag) : Sp := fun vs H Q _ => ∃ v M n, vs = [v] ∧ MtAt K H true v M ∧ Sq n M ∧ N4 n ∧ Ab BB M ∧ (detP M).natAbs = 1 ∧ ∀ v' H', Same H H' → MtAt K H' true v' (undP M) → Q v' H'
theorem ok_undone (T : Txt K mg A) : FnOk P w K mg base CX0 6 A.a_undone A.d_undone ["matrix"] (sp_undone K) := by
  have G_determinant_of : FnOk P w K mg base CX0 3 A.a_determinant_of A.d_determinant_of ["lines"] (sp_determinant_of K) := ok_determinant_of T
  have G_adjugate : FnOk P w K mg base CX0 5 A.a_adjugate A.d_adjugate ["lines"] (sp_adjugate K) := ok_adjugate T
  refine T.f_undone.ok sc_undone (fun vs H Q E h => ?_) (fun cdv B out t H vs Q E hr h => ?_)
  · obtain ⟨v, M, n, rfl, _⟩ := h
    rfl
  · obtain ⟨v, M, n, rfl, hM, sM, h4, hb, h1d, q⟩ := h
    refine ⟨_, (pss_cons (ps_set (i := 1) sc_undone.nd rfl (Or.inr rfl) (pe_call G_determinant_of (hr.mono (by decide)) (by rfl) T.g_determinant_of T.f_determinant_of.kp (b_determinant_of T) .nil pass0 (pa_cons (pv 0) pa_nil)))
      (pss_one (ps_ret (pe_callTy call_tuple_of (by rfl) T.n_tuple (by decide +kernel) (pa_cons (pe_lc (own := [("line", 3)]) (g := (gName 3)) (tt := tYes)  rfl sc_undone.nd (pi_tup (pe_call G_adjugate (hr.mono (by decide)) (by rfl) T.g_adjugate T.f_adjugate.kp (b_adjugate T) .nil pass0 (pa_cons (pv 0) pa_nil))) (blkOk_by (own := [("line", 3)]) (N := names_undone) (sc := defScope s_undone) (by decide +kernel)) (fun _ _ _ _ _ => (pg_name (i := 3) sc_undone.nd rfl (Or.inl rfl))) (fun _ _ _ _ _ => pts_nil) (fun _ _ _ _ _ => by apply My.pe_eq; (case h => exact (pe_callTy call_tuple_of (by rfl) T.n_tuple (by decide +kernel) (pa_cons (by exact (pe_lc (own := [("number", 2)]) (g := (gName 2)) (tt := tYes)  rfl sc_undone.nd (pi_tup (pv 3)) (by (exact L2.blkOk_by (by kernel_rfl))) (fun _ _ _ _ _ => (pg_name (i := 2) sc_undone.nd rfl (Or.inl rfl))) (fun _ _ _ _ _ => pts_nil) (fun _ _ _ _ _ => by apply My.pe_eq; (case h => exact (pe_op op_mulW (pv 1) (pv 2))); all_goals (first | exact rfl | (dsimp only [L2.Cx.blk, L2.Cx.nox, L2.cxOf]; done) | (dsimp only [L2.Cx.blk, L2.Cx.nox, L2.cxOf]; exact rfl))))) pa_nil))); all_goals (first | exact rfl | (dsimp only [L2.Cx.blk, L2.Cx.nox, L2.cxOf]; done) | (dsimp only [L2.Cx.blk, L2.Cx.nox, L2.cxOf]; exact rfl)))) pa_nil))))), ?_⟩
    have hz := sM.lt
    have hd : Wd (detP M) := Wd.unit (by omega)
    have hadj := adj_wd h4 sM hb
    obtain ⟨a, rfl, hA0⟩ := SqAt.mt hM sM
    refine ⟨_, rfl, a, n, M, rfl, hA0, h4.four, hb, fun H1 e1 => ?_⟩
    dsimp only [gName, tRet, tCB, tCall, tCons, tNil]
    rw [tLc_eq]
    refine ⟨_, rfl, _, M, n, rfl, hM.mono e1, sM, h4, hb, fun v2 H2 e2 h2 => ?_⟩
    obtain ⟨b, bs, rfl, hsB, hlB, hrB⟩ := h2.sq
    refine ⟨b, rfl, ⟨bs, hsB⟩, ?_⟩
    unfold LcAt
    have hal : (adjP M).length = M.length := by rw [(adjP_sq sM).len, sM.len]
    refine comp_one (K := K) (walk_tup (a := b) (xs := bs)) (fun m => rowD (((adjP M).getD m []).map fun x => detP M * x)) (by omega) (fun H' e => same_t e hsB) (fun R q0 => q0) (fun x => rfl) ?_ ?_
    · intro m x D acc H3 A1 hm3 e3 hD hL hx hA
      have hmr : m < (adjP M).length := by omega
      obtain ⟨tl, htl, hsl⟩ := hrB m (adjP M)[m] (List.getElem?_eq_getElem hmr)
      obtain rfl : x = .ref tl := by rw [hx] at htl; exact Option.some.inj htl
      have em : (adjP M).getD m [] = (adjP M)[m] := by simp [hmr]
      have hw : (adjP M)[m].length = n := (adjP_sq sM).row _ (List.getElem_mem hmr)
      rw [em] at hA
      dsimp only [tCB, tCons, tNil]
      refine comp_one (K := K) (walk_tup (a := tl) (xs := irow (adjP M)[m])) (fun c => .int (detP M * (adjP M)[m].getD c 0)) (by simp only [irow, List.length_map]; have := sM.few; omega) (fun H' e => same_t (e3.trans e) hsl)
        (fun R r0 => ⟨_, rfl, tl, rfl, ⟨_, same_t e3 hsl⟩, r0⟩) (fun x => rfl) ?_ ?_
      · intro c y D2 acc2 H4 A2 hc e4 hD2 hL2 hy hA2
        obtain ⟨hc1, rfl⟩ := irow_get' hy
        exact ⟨_, rfl, _, rfl, _, _, rfl, rfl, Wd.mul hd (hadj _ (List.getElem_mem hmr) _ (mem_getD hc1)), hA2 _ _ (Same.refl _) fun u => .int _⟩
      · intro D2 ys H4 e4 hD2 hL2 hj
        rw [map_getD_data (fun x => detP M * x)] at hj
        rw [jd_ints_inv _ _ hj] at hL2
        exact ⟨D2, _, rfl, .inl ⟨.inl (.inl hL2), fun l hl => hA _ _ (e4.trans (same_new hl)) fun u => row_new (e4 _ _ hL) hl⟩⟩
    · intro D ys H3 e3 hD hL hj
      rw [range_getD' (fun l : List Int => rowD (l.map fun x => detP M * x)) [] (adjP M) bs.length hlB] at hj
      have hr2 : RowsAt K H3 ys ((undP M).map irow) := jd_rows (by simpa [undP, List.map_map, Function.comp_def] using hj)
      exact ⟨D, _, rfl, .inl ⟨.inl (.inl hL), fun l hl => q _ _ (e1.trans (e2.trans (e3.trans (same_new hl)))) ⟨l, ys, rfl, .inl (.inl upd_same), rows_mono (same_new hl) hr2⟩⟩⟩
end
end K06

set_option maxHeartbeats 1000000
namespace K06
open PySem PySem.Spec PyProof.Rows L2 My ZN
section
variable {P : Program} {w : World} {K : PySem.W.Frag} {mg : Str → Option Value} {base : Heap} {A : Adr}
def whole : PyData → Bool
  | .int _ => true
  | _ => false
def isI : PyData → Bool
  | .int i => decide (-(10 ^ 60) < i) && decide (i < 10 ^ 60)
  | _ => false
def tupD : PyData → Bool
  | .tuple _ => true
  | _ => false
theorem kit_int (d : PyData) : kitB (tyD d) "int" = some (match d with | .int _ => true | .bool _ => true | _ => false) := by
  cases d <;> simp only [tyD, tupD] <;> decide +kernel
theorem kit_bool (d : PyData) : kitB (tyD d) "bool" = some (match d with | .bool _ => true | _ => false) := by
  cases d <;> simp only [tyD, tupD] <;> decide +kernel
theorem kit_tuple (d : PyData) : kitB (tyD d) "tuple" = some (tupD d) := by
  cases d <;> simp only [tyD, tupD] <;> decide +kernel
def sp_is_whole (K : PySem.W.Frag) : Sp := fun vs H Q _ => ∃ v d, vs = [v] ∧ Jd K H v d ∧ Q (.bl (whole d)) H
theorem ok_is_whole (T : Txt K mg A) : FnOk P w K mg base CX0 1 A.a_is_whole A.d_is_whole ["value"] (sp_is_whole K) := by
  refine T.f_is_whole.ok sc_is_whole (fun vs H Q E h => ?_) (fun cdv B out t H vs Q E hr h => ?_)
  · obtain ⟨v, d, rfl, _⟩ := h
    rfl
  · obtain ⟨v, d, rfl, j, q⟩ := h
    refine ⟨_, (pss_one (ps_ret (pe_and (pe_callB call_isi (by rfl) T.n_isinstance (by decide +kernel) (pa_cons (pv 0) (pa_cons (pe_bltn (v := .ty "int") (by rfl) T.n_int (by decide +kernel) rfl) pa_nil))) (pe_one (pe_not (pe_callB call_isi (by rfl) T.n_isinstance (by decide +kernel) (pa_cons (pv 0) (pa_cons (pe_bltn (v := .ty "bool") (by rfl) T.n_bool (by decide +kernel) rfl) pa_nil)))))))), ?_⟩
    refine ⟨_, rfl, ⟨_, _, _, _, _, rfl, .ty "int", j.ty, kit_ty (kit_int d), ⟨_, rfl, ?_⟩⟩⟩
    have q' : Q (.bl (whole d)) H := q
    cases d
    case int i => exact iteT ⟨_, rfl, ⟨_, _, _, _, _, rfl, .ty "bool", j.ty, kit_ty (kit_bool _), ⟨_, rfl, q'⟩⟩⟩
    case bool b => exact iteT ⟨_, rfl, ⟨_, _, _, _, _, rfl, .ty "bool", j.ty, kit_ty (kit_bool _), ⟨_, rfl, q'⟩⟩⟩
    all_goals exact iteF q'
def sp_is_integer (K : PySem.W.Frag) : Sp := fun vs H Q _ => ∃ v d, vs = [v] ∧ Jd K H v d ∧ Q (.bl (isI d)) H
theorem ok_is_integer (T : Txt K mg A) : FnOk P w K mg base CX0 2 A.a_is_integer A.d_is_integer ["value"] (sp_is_integer K) := by
  have G_is_whole : FnOk P w K mg base CX0 1 A.a_is_whole A.d_is_whole ["value"] (sp_is_whole K) := ok_is_whole T
  refine T.f_is_integer.ok sc_is_integer (fun vs H Q E h => ?_) (fun cdv B out t H vs Q E hr h => ?_)
  · obtain ⟨v, d, rfl, _⟩ := h
    rfl
  · obtain ⟨v, d, rfl, j, q⟩ := h
    refine ⟨_, (pss_one (ps_ret (pe_and (pe_call G_is_whole (hr.mono (by decide)) (by rfl) T.g_is_whole T.f_is_whole.kp (b_is_whole T) .nil pass0 (pa_cons (pv 0) pa_nil)) (pe_one (pe_chain op_lt op_lt (pe_un un_neg (pe_glob rfl T.c_TOO_LONG T.v_TOO_LONG)) (pv 0) (pe_glob rfl T.c_TOO_LONG T.v_TOO_LONG)))))), ?_⟩
    refine ⟨_, rfl, v, d, rfl, j, _, rfl, ?_⟩
    have q' : Q (.bl (isI d)) H := q
    cases d
    case int i =>
      cases j
      refine iteT ⟨_, rfl, _, rfl, _, _, rfl, rfl, _, rfl, ?_⟩
      by_cases c : -(10 ^ 60) < i
      · refine if_pos_of (decide_eq_true c) ⟨_, _, rfl, rfl, ?_⟩
        have e : isI (.int i) = decide (i < 10 ^ 60) := by
          show (decide _ && decide _) = _
          rw [decide_eq_true c, Bool.true_and]
        rw [e] at q'
        exact q'
      · refine if_neg_of (decide_eq_false c) ?_
        have e : isI (.int i) = false := by
          show (decide _ && decide _) = _
          rw [decide_eq_false c, Bool.false_and]
        rw [e] at q'
        exact q'
    all_goals exact iteF q'
def intsD (lo hi : Int) : PyData → Bool
  | .tuple ds => (decide (lo ≤ (ds.length : Int)) && decide ((ds.length : Int) ≤ hi)) && ds.all isI
  | _ => false
def sp_are_integers (K : PySem.W.Frag) : Sp := fun vs H Q _ => ∃ v d lo hi, vs = [v, .int lo, .int hi] ∧ Jd K H v d ∧ hi < 100000 ∧ ∀ H', Same H H' → Q (.bl (intsD lo hi d)) H'
theorem ok_are_integers (T : Txt K mg A) : FnOk P w K mg base CX0 3 A.a_are_integers A.d_are_integers ["value", "least", "most"] (sp_are_integers K) := by
  have G_is_integer : FnOk P w K mg base CX0 2 A.a_is_integer A.d_is_integer ["value"] (sp_is_integer K) := ok_is_integer T
  refine T.f_are_integers.ok sc_are_integers (fun vs H Q E h => ?_) (fun cdv B out t H vs Q E hr h => ?_)
  · obtain ⟨v, d, lo, hi, rfl, _⟩ := h
    rfl
  · obtain ⟨v, d, lo, hi, rfl, j, hz, q⟩ := h
    refine ⟨_, (pss_cons (ps_if (PW.pt (pw_or (pt_not (pt_val (pe_callB call_isi (by rfl) T.n_isinstance (by decide +kernel) (pa_cons (pv 0) (pa_cons (pe_bltn (v := .ty "tuple") (by rfl) T.n_tuple (by decide +kernel) rfl) pa_nil))))) (pw_or1 (pt_not (pt_chain op_le op_le (pv 1) (pe_callB call_len_seq (by rfl) T.n_len (by decide +kernel) (pa_cons (pv 0) pa_nil)) (pv 2)))))) (pss_one (ps_ret pe_bl)) pss_nil)
      (pss_one (ps_ret (pe_callB (cr_all rfl) (by rfl) T.n_all (by decide +kernel) (pa_cons (pe_lc (own := [("number", 3)]) (g := (gName 3)) (tt := tYes)  rfl sc_are_integers.nd (pi_tup (pv 0)) (blkOk_by (own := [("number", 3)]) (N := names_are_integers) (sc := defScope s_are_integers) (by decide +kernel)) (fun _ _ _ _ _ => (pg_name (i := 3) sc_are_integers.nd rfl (Or.inl rfl))) (fun _ _ _ _ _ => pts_nil) (fun _ _ _ _ _ => by apply My.pe_eq; (case h => exact (pe_call G_is_integer (hr.mono (by decide)) (by rfl) T.g_is_integer T.f_is_integer.kp (b_is_integer T) .nil pass0 (pa_cons (pv 3) pa_nil))); all_goals (first | exact rfl | (dsimp only [L2.Cx.blk, L2.Cx.nox, L2.cxOf]; done) | (dsimp only [L2.Cx.blk, L2.Cx.nox, L2.cxOf]; exact rfl)))) pa_nil))))), ?_⟩
    refine ⟨_, rfl, _, _, _, _, _, rfl, .ty "tuple", j.ty, kit_ty (kit_tuple d), ⟨_, rfl, ?_⟩⟩
    cases d with
    | tuple ds =>
      cases j with
      | tup hs ha =>
        rename_i a xs
        refine iteF ?_
        refine ⟨_, rfl, _, rfl, _, _, rfl, Or.inr hs, _, _, rfl, rfl, _, rfl, ?_⟩
        have hl := ha.length
        by_cases c1 : lo ≤ (xs.length : Int)
        · refine if_pos_of (decide_eq_true c1) ⟨_, rfl, _, _, rfl, rfl, _, rfl, ?_⟩
          by_cases c2 : (xs.length : Int) ≤ hi
          · rw [decide_eq_true c2]
            refine iteF ?_
            dsimp only [tNext, tRet, tCB, tCons]
            refine comp_t (K := K) (a := a) (xs := xs) (ds.map fun d => V.bl (isI d)) (by rw [List.length_map, hl]) (by omega) hs ?_ ?_ ?_ (fun Q' q' => ⟨_, rfl, q'⟩)
            · exact fun _ => rfl
            · rintro k x y H1 hx hy e1 Q' q'
              obtain ⟨d, hd, jd⟩ := ha.get hx
              rw [List.getElem?_map, hd] at hy
              cases hy
              exact ⟨_, rfl, _, d, rfl, Jd.mono e1 _ _ jd, q' _ (Same.refl _)⟩
            · intro D H' e1 hD hL
              refine ⟨D, ds.map isI, rfl, Evl.sq_of (by rw [List.map_map]; exact hL), ?_⟩
              have e : intsD lo hi (.tuple ds) = (ds.map isI).all id := by
                show ((_ && _) && _) = _
                rw [← hl, decide_eq_true c1, decide_eq_true c2, List.all_map]
                rfl
              rw [← e]
              exact q H' e1
          · refine if_pos_of (by rw [decide_eq_false c2]; rfl) ?_
            have e : intsD lo hi (.tuple ds) = false := by
              show ((_ && _) && _) = _
              rw [← hl, decide_eq_false c2, Bool.and_false, Bool.false_and]
            have q' := q H (Same.refl _)
            rw [e] at q'
            exact q'
        · refine if_neg_of (decide_eq_false c1) ⟨_, rfl, iteT ?_⟩
          have e : intsD lo hi (.tuple ds) = false := by
            show ((_ && _) && _) = _
            rw [← hl, decide_eq_false c1, Bool.false_and, Bool.false_and]
          have q' := q H (Same.refl _)
          rw [e] at q'
          exact q'
    | _ => exact iteT (q H (Same.refl _))
end
end K06

set_option maxHeartbeats 1000000
namespace K06
open PySem PySem.Spec PyProof.Rows L2 My ZN
section
variable {P : Program} {w : World} {K : PySem.W.Frag} {mg : Str → Option Value} {base : Heap} {A : Adr}
def sp_entries_of (K : PySem.W.Frag) : Sp := fun vs H Q _ => ∃ v M, vs = [v] ∧ MtAt K H true v M ∧ M.flatten.length < 100000 ∧ ∀ D H', Same H H' → H' D = some (.lst (irow M.flatten)) → Q (.ref D) H'
theorem ok_entries_of (T : Txt K mg A) : FnOk P w K mg base CX0 1 A.a_entries_of A.d_entries_of ["table"] (sp_entries_of K) := by
  refine T.f_entries_of.ok sc_entries_of (fun vs H Q E h => ?_) (fun cdv B out t H vs Q E hr h => ?_)
  · obtain ⟨v, M, rfl, _⟩ := h
    rfl
  · obtain ⟨v, M, rfl, ⟨a, ls, rfl, hs, hr0⟩, hz, q⟩ := h
    refine ⟨_, (pss_one (ps_ret (pe_lc2 (own := [("row", 1), ("entry", 2)]) (vs1 := [2]) (tt := tYes) (tt1 := tYes) rfl sc_entries_of.nd (pi_tup (pv 0)) (blkOk_by (own := [("row", 1), ("entry", 2)]) (N := names_entries_of) (sc := defScope s_entries_of) (by decide +kernel)) (by decide) (fun _ _ _ _ _ => (pg_name (i := 1) sc_entries_of.nd rfl (Or.inl rfl))) (fun _ _ _ _ _ => pts_nil) (fun _ _ _ _ _ => by apply My.pi_eq; (case h => exact (pi_tup (pv 1))); all_goals (first | exact rfl | (dsimp only [L2.Cx.blk, L2.Cx.nox, L2.cxOf]; done) | (dsimp only [L2.Cx.blk, L2.Cx.nox, L2.cxOf]; exact rfl))) (fun _ _ _ _ _ => (pg_name (i := 2) sc_entries_of.nd rfl (Or.inl rfl))) (fun _ _ _ _ _ => pts_nil) (fun _ _ _ _ _ => (pv 2))))), ?_⟩
    exact comp_flat (K := K) hs (rows_k hr0) hz (fun R r => ⟨_, rfl, a, rfl, ⟨_, hs⟩, r⟩) (fun t xs H' R hx r => ⟨_, rfl, t, rfl, ⟨_, hx⟩, r⟩) (fun x => rfl) (fun x y => rfl) (fun x y => rfl) fun D H' e _ hL => q D H' e hL
def sp_made_together (K : PySem.W.Frag) : Sp := fun vs H Q _ => ∃ v u M N, vs = [v, u] ∧ MtAt K H true v M ∧ MtAt K H true u N ∧ M.flatten.length < 100000 ∧ N.flatten.length < 100000 ∧ AllW M ∧ AllW N ∧ ∀ H', Same H H' → Q (.int (togM M N)) H'
theorem flat_wd {M : List (List Int)} (h : AllW M) : ∀ x ∈ M.flatten, Wd x := fun x hx => by
  obtain ⟨r, hr, hxr⟩ := List.mem_flatten.mp hx
  exact h r hr x hxr
theorem ok_made_together (T : Txt K mg A) : FnOk P w K mg base CX0 2 A.a_made_together A.d_made_together ["one", "other"] (sp_made_together K) := by
  have G_dot : FnOk P w K mg base CX0 1 A.a_dot A.d_dot ["one", "other"] (sp_dot K) := ok_dot T
  have G_entries_of : FnOk P w K mg base CX0 1 A.a_entries_of A.d_entries_of ["table"] (sp_entries_of K) := ok_entries_of T
  refine T.f_made_together.ok sc_made_together (fun vs H Q E h => ?_) (fun cdv B out t H vs Q E hr h => ?_)
  · obtain ⟨v, u, M, N, rfl, _⟩ := h
    rfl
  · obtain ⟨v, u, M, N, rfl, hM, hN, zM, zN, wM, wN, q⟩ := h
    refine ⟨_, (pss_one (ps_ret (pe_call G_dot (hr.mono (by decide)) (by rfl) T.g_dot T.f_dot.kp (b_dot T) .nil pass0 (pa_cons (pe_call G_entries_of (hr.mono (by decide)) (by rfl) T.g_entries_of T.f_entries_of.kp (b_entries_of T) .nil pass0 (pa_cons (pv 0) pa_nil)) (pa_cons (pe_call G_entries_of (hr.mono (by decide)) (by rfl) T.g_entries_of T.f_entries_of.kp (b_entries_of T) .nil pass0 (pa_cons (pv 1) pa_nil)) pa_nil))))), ?_⟩
    refine ⟨_, rfl, v, M, rfl, hM, zM, fun D H1 e1 h1 => ?_⟩
    refine ⟨_, rfl, u, N, rfl, hN.mono e1, zN, fun D2 H2 e2 h2 => ?_⟩
    exact ⟨false, false, D, D2, M.flatten, N.flatten, rfl, .inl (.inl (e2 _ _ h1)), .inl (.inl h2), flat_wd wM, flat_wd wN, zM, fun H3 e3 => q H3 (e1.trans (e2.trans e3))⟩
end
end K06

set_option maxHeartbeats 1000000
namespace My
open PySem PySem.Spec PyProof.Rows L2 ZN
/-- a tuple of this many, each of them so -/
def tupOf (f : PyData → Bool) (n : Nat) : PyData → Bool
  | .tuple ds => decide (ds.length = n) && ds.all f
  | _ => false
theorem dec_ne {m n : Nat} : decide (¬ ((m : Int) = (n : Int))) = !decide (m = n) := by
  by_cases h : m = n
  · subst h; simp
  · have : ¬ ((m : Int) = (n : Int)) := fun e => h (Int.ofNat.inj e)
    simp [h, this]
end My
namespace K06
open PySem PySem.Spec PyProof.Rows L2 My ZN
section
variable {P : Program} {w : World} {K : PySem.W.Frag} {mg : Str → Option Value} {base : Heap} {A : Adr}
def sp_is_long_row (K : PySem.W.Frag) : Sp := fun vs H Q _ => ∃ v d n, vs = [.int (n : Nat), v] ∧ Jd K H v d ∧ n < 100000 ∧ ∀ H', Same H H' → Q (.bl (tupOf whole n d)) H'
theorem ok_is_long_row (T : Txt K mg A) : FnOk P w K mg base CX0 2 A.a_is_long_row A.d_is_long_row ["size", "value"] (sp_is_long_row K) := by
  have G_is_whole : FnOk P w K mg base CX0 1 A.a_is_whole A.d_is_whole ["value"] (sp_is_whole K) := ok_is_whole T
  refine T.f_is_long_row.ok sc_is_long_row (fun vs H Q E h => ?_) (fun cdv B out t H vs Q E hr h => ?_)
  · obtain ⟨v, d, n, rfl, _⟩ := h
    rfl
  · obtain ⟨v, d, n, rfl, j, hz, q⟩ := h
    refine ⟨_, (pss_cons (ps_if (PW.pt (pw_or (pt_not (pt_val (pe_callB call_isi (by rfl) T.n_isinstance (by decide +kernel) (pa_cons (pv 1) (pa_cons (pe_bltn (v := .ty "tuple") (by rfl) T.n_tuple (by decide +kernel) rfl) pa_nil))))) (pw_or1 (pt_cmpR op_ne (pe_callB call_len_seq (by rfl) T.n_len (by decide +kernel) (pa_cons (pv 1) pa_nil)) (pv 0) (nomark _))))) (pss_one (ps_ret pe_bl)) pss_nil)
      (pss_one (ps_ret (pe_callB (cr_all rfl) (by rfl) T.n_all (by decide +kernel) (pa_cons (pe_lc (own := [("number", 2)]) (g := (gName 2)) (tt := tYes)  rfl sc_is_long_row.nd (pi_tup (pv 1)) (blkOk_by (own := [("number", 2)]) (N := names_is_long_row) (sc := defScope s_is_long_row) (by decide +kernel)) (fun _ _ _ _ _ => (pg_name (i := 2) sc_is_long_row.nd rfl (Or.inl rfl))) (fun _ _ _ _ _ => pts_nil) (fun _ _ _ _ _ => by apply My.pe_eq; (case h => exact (pe_call G_is_whole (hr.mono (by decide)) (by rfl) T.g_is_whole T.f_is_whole.kp (b_is_whole T) .nil pass0 (pa_cons (pv 2) pa_nil))); all_goals (first | exact rfl | (dsimp only [L2.Cx.blk, L2.Cx.nox, L2.cxOf]; done) | (dsimp only [L2.Cx.blk, L2.Cx.nox, L2.cxOf]; exact rfl)))) pa_nil))))), ?_⟩
    refine ⟨_, rfl, _, _, _, _, _, rfl, .ty "tuple", j.ty, kit_ty (kit_tuple d), ⟨_, rfl, ?_⟩⟩
    cases d with
    | tuple ds =>
      cases j with
      | tup hs ha =>
        rename_i a xs
        refine iteF ?_
        have hl := ha.length
        refine ⟨_, rfl, _, _, rfl, Or.inr hs, _, rfl, rfl, _, rfl, ?_⟩
        by_cases c : ds.length = n
        · refine if_neg_of (by rw [hl]; simp [dec_int, c]) ?_
          dsimp only [tNext, tRet, tCB, tCons]
          refine comp_t (K := K) (a := a) (xs := xs) (ds.map fun d => V.bl (whole d)) (by rw [List.length_map, hl]) (by omega) hs ?_ ?_ ?_ (fun Q' q' => ⟨_, rfl, q'⟩)
          · exact fun _ => rfl
          · rintro k x y H1 hx hy e1 Q' q'
            obtain ⟨d, hd, jd⟩ := ha.get hx
            rw [List.getElem?_map, hd] at hy
            cases hy
            exact ⟨_, rfl, _, d, rfl, Jd.mono e1 _ _ jd, q' _ (Same.refl _)⟩
          · intro D H' e1 hD hL
            refine ⟨D, ds.map whole, rfl, Evl.sq_of (by rw [List.map_map]; exact hL), ?_⟩
            have e : tupOf whole n (.tuple ds) = (ds.map whole).all id := by
              show (_ && _) = _
              rw [decide_eq_true c, Bool.true_and, List.all_map]
              rfl
            rw [← e]
            exact q H' e1
        · refine if_pos_of (by rw [hl]; simp [dec_int, int_ne c]) ?_
          have e : tupOf whole n (.tuple ds) = false := by
            show (_ && _) = _
            rw [decide_eq_false c, Bool.false_and]
          have q' := q H (Same.refl _)
          rw [e] at q'
          exact q'
    | _ =>
      exact iteT (q H (Same.refl _))
end
end K06

set_option maxHeartbeats 1000000
namespace K06
open PySem PySem.Spec PyProof.Rows L2 My ZN
section
variable {P : Program} {w : World} {K : PySem.W.Frag} {mg : Str → Option Value} {base : Heap} {A : Adr}
def sp_is_long_square (K : PySem.W.Frag) : Sp := fun vs H Q _ => ∃ v d n, vs = [.int (n : Nat), v] ∧ Jd K H v d ∧ n < 100000 ∧ ∀ H', Same H H' → Q (.bl (tupOf (tupOf whole n) n d)) H'
theorem ok_is_long_square (T : Txt K mg A) : FnOk P w K mg base CX0 3 A.a_is_long_square A.d_is_long_square ["size", "value"] (sp_is_long_square K) := by
  have G_is_long_row : FnOk P w K mg base CX0 2 A.a_is_long_row A.d_is_long_row ["size", "value"] (sp_is_long_row K) := ok_is_long_row T
  refine T.f_is_long_square.ok sc_is_long_square (fun vs H Q E h => ?_) (fun cdv B out t H vs Q E hr h => ?_)
  · obtain ⟨v, d, n, rfl, _⟩ := h
    rfl
  · obtain ⟨v, d, n, rfl, j, hz, q⟩ := h
    refine ⟨_, (pss_cons (ps_if (PW.pt (pw_or (pt_not (pt_val (pe_callB call_isi (by rfl) T.n_isinstance (by decide +kernel) (pa_cons (pv 1) (pa_cons (pe_bltn (v := .ty "tuple") (by rfl) T.n_tuple (by decide +kernel) rfl) pa_nil))))) (pw_or1 (pt_cmpR op_ne (pe_callB call_len_seq (by rfl) T.n_len (by decide +kernel) (pa_cons (pv 1) pa_nil)) (pv 0) (nomark _))))) (pss_one (ps_ret pe_bl)) pss_nil)
      (pss_one (ps_ret (pe_callB (cr_all rfl) (by rfl) T.n_all (by decide +kernel) (pa_cons (pe_lc (own := [("row", 2)]) (g := (gName 2)) (tt := tYes)  rfl sc_is_long_square.nd (pi_tup (pv 1)) (blkOk_by (own := [("row", 2)]) (N := names_is_long_square) (sc := defScope s_is_long_square) (by decide +kernel)) (fun _ _ _ _ _ => (pg_name (i := 2) sc_is_long_square.nd rfl (Or.inl rfl))) (fun _ _ _ _ _ => pts_nil) (fun _ _ _ _ _ => by apply My.pe_eq; (case h => exact (pe_call G_is_long_row (hr.mono (by decide)) (by rfl) T.g_is_long_row T.f_is_long_row.kp (b_is_long_row T) .nil pass0 (pa_cons (pv 0) (pa_cons (pv 2) pa_nil)))); all_goals (first | exact rfl | (dsimp only [L2.Cx.blk, L2.Cx.nox, L2.cxOf]; done) | (dsimp only [L2.Cx.blk, L2.Cx.nox, L2.cxOf]; exact rfl)))) pa_nil))))), ?_⟩
    refine ⟨_, rfl, _, _, _, _, _, rfl, .ty "tuple", j.ty, kit_ty (kit_tuple d), ⟨_, rfl, ?_⟩⟩
    cases d with
    | tuple ds =>
      cases j with
      | tup hs ha =>
        rename_i a xs
        refine iteF ?_
        have hl := ha.length
        refine ⟨_, rfl, _, _, rfl, Or.inr hs, _, rfl, rfl, _, rfl, ?_⟩
        by_cases c : ds.length = n
        · refine if_neg_of (by rw [hl]; simp [dec_int, c]) ?_
          dsimp only [tNext, tRet, tCB, tCons]
          refine comp_t (K := K) (a := a) (xs := xs) (ds.map fun d => V.bl (tupOf whole n d)) (by rw [List.length_map, hl]) (by omega) hs ?_ ?_ ?_ (fun Q' q' => ⟨_, rfl, q'⟩)
          · exact fun _ => rfl
          · rintro k x y H1 hx hy e1 Q' q'
            obtain ⟨d, hd, jd⟩ := ha.get hx
            rw [List.getElem?_map, hd] at hy
            cases hy
            exact ⟨_, rfl, _, rfl, _, d, n, rfl, Jd.mono e1 _ _ jd, hz, fun H2 e2 => q' _ e2⟩
          · intro D H' e1 hD hL
            refine ⟨D, ds.map (tupOf whole n), rfl, Evl.sq_of (by rw [List.map_map]; exact hL), ?_⟩
            have e : tupOf (tupOf whole n) n (.tuple ds) = (ds.map (tupOf whole n)).all id := by
              show (_ && _) = _
              rw [decide_eq_true c, Bool.true_and, List.all_map]
              rfl
            rw [← e]
            exact q H' e1
        · refine if_pos_of (by rw [hl]; simp [dec_int, int_ne c]) ?_
          have e : tupOf (tupOf whole n) n (.tuple ds) = false := by
            show (_ && _) = _
            rw [decide_eq_false c, Bool.false_and]
          have q' := q H (Same.refl _)
          rw [e] at q'
          exact q'
    | _ =>
      exact iteT (q H (Same.refl _))
def sp_fits_row (K : PySem.W.Frag) : Sp := fun vs H Q _ => ∃ v d n, vs = [.int (n : Nat), v] ∧ Jd K H v d ∧ N4 n ∧ ∀ H', Same H H' → Q (.bl (intsD n n d)) H'
theorem in_sizes {n : Nat} (h : N4 n) : inV (.int (n : Nat)) [.int 2, .int 3, .int 4] = true := by rcases h with rfl | rfl | rfl <;> rfl
theorem ok_fits_row (T : Txt K mg A) : FnOk P w K mg base CX0 4 A.a_fits_row A.d_fits_row ["size", "value"] (sp_fits_row K) := by
  have G_are_integers : FnOk P w K mg base CX0 3 A.a_are_integers A.d_are_integers ["value", "least", "most"] (sp_are_integers K) := ok_are_integers T
  refine T.f_fits_row.ok sc_fits_row (fun vs H Q E h => ?_) (fun cdv B out t H vs Q E hr h => ?_)
  · obtain ⟨v, d, n, rfl, _⟩ := h
    rfl
  · obtain ⟨v, d, n, rfl, j, h4, q⟩ := h
    refine ⟨_, (pss_one (ps_ret (pe_and (pe_cmpR op_in_seq (pv 0) (pe_glob (v := .ref A.t_SIZES) rfl T.c_SIZES rfl) (by rfl)) (pe_one (pe_call G_are_integers (hr.mono (by decide)) (by rfl) T.g_are_integers T.f_are_integers.kp (b_are_integers T) .nil pass0 (pa_cons (pv 1) (pa_cons (pv 0) (pa_cons (pv 0) pa_nil)))))))), ?_⟩
    refine ⟨_, rfl, _, _, rfl, .inr (T.v_SIZES H), rfl, rfl, ?_⟩
    rw [in_sizes h4]
    exact ⟨_, rfl, iteT ⟨_, rfl, _, rfl, _, rfl, v, d, _, _, rfl, j, by have := h4.four; omega, q⟩⟩
def sp_fits_square (K : PySem.W.Frag) : Sp := fun vs H Q _ => ∃ v d n, vs = [.int (n : Nat), v] ∧ Jd K H v d ∧ N4 n ∧ ∀ H', Same H H' → Q (.bl (tupOf (intsD n n) n d)) H'
theorem ok_fits_square (T : Txt K mg A) : FnOk P w K mg base CX0 5 A.a_fits_square A.d_fits_square ["size", "value"] (sp_fits_square K) := by
  have G_fits_row : FnOk P w K mg base CX0 4 A.a_fits_row A.d_fits_row ["size", "value"] (sp_fits_row K) := ok_fits_row T
  refine T.f_fits_square.ok sc_fits_square (fun vs H Q E h => ?_) (fun cdv B out t H vs Q E hr h => ?_)
  · obtain ⟨v, d, n, rfl, _⟩ := h
    rfl
  · obtain ⟨v, d, n, rfl, j, h4, q⟩ := h
    have hz : n < 100000 := by have := h4.four; omega
    refine ⟨_, (pss_cons (ps_if (PW.pt (pw_or (pt_cmpR op_notIn_seq (pv 0) (pe_glob (v := .ref A.t_SIZES) rfl T.c_SIZES rfl) (by rfl)) (pw_or (pt_not (pt_val (pe_callB call_isi (by rfl) T.n_isinstance (by decide +kernel) (pa_cons (pv 1) (pa_cons (pe_bltn (v := .ty "tuple") (by rfl) T.n_tuple (by decide +kernel) rfl) pa_nil))))) (pw_or1 (pt_cmpR op_ne (pe_callB call_len_seq (by rfl) T.n_len (by decide +kernel) (pa_cons (pv 1) pa_nil)) (pv 0) (nomark _)))))) (pss_one (ps_ret pe_bl)) pss_nil)
      (pss_one (ps_ret (pe_callB (cr_all rfl) (by rfl) T.n_all (by decide +kernel) (pa_cons (pe_lc (own := [("row", 2)]) (g := (gName 2)) (tt := tYes)  rfl sc_fits_square.nd (pi_tup (pv 1)) (blkOk_by (own := [("row", 2)]) (N := names_fits_square) (sc := defScope s_fits_square) (by decide +kernel)) (fun _ _ _ _ _ => (pg_name (i := 2) sc_fits_square.nd rfl (Or.inl rfl))) (fun _ _ _ _ _ => pts_nil) (fun _ _ _ _ _ => by apply My.pe_eq; (case h => exact (pe_call G_fits_row (hr.mono (by decide)) (by rfl) T.g_fits_row T.f_fits_row.kp (b_fits_row T) .nil pass0 (pa_cons (pv 0) (pa_cons (pv 2) pa_nil)))); all_goals (first | exact rfl | (dsimp only [L2.Cx.blk, L2.Cx.nox, L2.cxOf]; done) | (dsimp only [L2.Cx.blk, L2.Cx.nox, L2.cxOf]; exact rfl)))) pa_nil))))), ?_⟩
    refine ⟨_, rfl, _, _, rfl, .inr (T.v_SIZES H), rfl, rfl, ?_⟩
    rw [in_sizes h4]
    refine ⟨_, rfl, iteF ?_⟩
    refine ⟨_, rfl, _, _, _, _, _, rfl, .ty "tuple", j.ty, kit_ty (kit_tuple d), ⟨_, rfl, ?_⟩⟩
    cases d with
    | tuple ds =>
      cases j with
      | tup hs ha =>
        rename_i a xs
        refine iteF ?_
        have hl := ha.length
        refine ⟨_, rfl, _, _, rfl, Or.inr hs, _, rfl, rfl, _, rfl, ?_⟩
        by_cases c : ds.length = n
        · refine if_neg_of (by rw [hl]; simp [dec_int, c]) ?_
          dsimp only [tNext, tRet, tCB, tCons]
          refine comp_t (K := K) (a := a) (xs := xs) (ds.map fun d => V.bl (intsD n n d)) (by rw [List.length_map, hl]) (by omega) hs ?_ ?_ ?_ (fun Q' q' => ⟨_, rfl, q'⟩)
          · exact fun _ => rfl
          · rintro k x y H1 hx hy e1 Q' q'
            obtain ⟨d, hd, jd⟩ := ha.get hx
            rw [List.getElem?_map, hd] at hy
            cases hy
            exact ⟨_, rfl, _, rfl, _, d, n, rfl, Jd.mono e1 _ _ jd, h4, fun H2 e2 => q' _ e2⟩
          · intro D H' e1 hD hL
            refine ⟨D, ds.map (intsD n n), rfl, Evl.sq_of (by rw [List.map_map]; exact hL), ?_⟩
            have e : tupOf (intsD n n) n (.tuple ds) = (ds.map (intsD n n)).all id := by
              show (_ && _) = _
              rw [decide_eq_true c, Bool.true_and, List.all_map]
              rfl
            rw [← e]
            exact q H' e1
        · refine if_pos_of (by rw [hl]; simp [dec_int, int_ne c]) ?_
          have e : tupOf (intsD n n) n (.tuple ds) = false := by
            show (_ && _) = _
            rw [decide_eq_false c, Bool.false_and]
          have q' := q H (Same.refl _)
          rw [e] at q'
          exact q'
    | _ =>
      exact iteT (q H (Same.refl _))
end
end K06

set_option maxHeartbeats 1000000
namespace My
open PySem PySem.Spec PyProof.Rows L2 ZN
/-- the greatest integer of sixty digits -/
abbrev TT60 : Nat := 999999999999999999999999999999999999999999999999999999999999
theorem all_map {α : Type} (f : α → PyData) (g : PyData → Bool) (l : List α) (h : ∀ x ∈ l, g (f x) = true) : (l.map f).all g = true := by
  rw [List.all_eq_true]
  intro d hd
  obtain ⟨x, hx, rfl⟩ := List.mem_map.mp hd
  exact h x hx
end My
namespace K06
open PySem PySem.Spec PyProof.Rows L2 My ZN
theorem isI_of {x : Int} (h : x.natAbs ≤ TT60) : isI (.int x) = true := by
  have h' : x.natAbs ≤ 999999999999999999999999999999999999999999999999999999999999 := h
  show (decide _ && decide _) = true
  rw [decide_eq_true (by omega), decide_eq_true (by omega)]
  rfl
theorem intsD_row {n : Nat} {r : List Int} (hr : r.length = n) (h : Rb TT60 r) : intsD n n (rowD r) = true := by
  unfold rowD
  rw [intsD, List.length_map, hr, decide_eq_true (Int.le_refl _), Bool.true_and, Bool.true_and]
  exact all_map _ _ _ fun x hx => isI_of (h x hx)
theorem sq_fits {n : Nat} {M : List (List Int)} (s : Sq n M) (h : Ab TT60 M) : tupOf (intsD n n) n (matD M) = true := by
  unfold matD
  rw [tupOf, List.length_map, s.len, decide_eq_true rfl, Bool.true_and]
  exact all_map _ _ _ fun r hr => intsD_row (s.row r hr) (h r hr)
theorem row_long {n : Nat} {r : List Int} (hr : r.length = n) : tupOf whole n (rowD r) = true := by
  unfold rowD
  rw [tupOf, List.length_map, hr, decide_eq_true rfl, Bool.true_and]
  exact all_map _ _ _ fun x hx => rfl
theorem sq_long {n : Nat} {M : List (List Int)} (s : Sq n M) : tupOf (tupOf whole n) n (matD M) = true := by
  unfold matD
  rw [tupOf, List.length_map, s.len, decide_eq_true rfl, Bool.true_and]
  exact all_map _ _ _ fun r hr => row_long (s.row r hr)
theorem tt_bb : TT60 ≤ BB := by decide
section
variable {P : Program} {w : World} {K : PySem.W.Frag} {mg : Str → Option Value} {base : Heap} {A : Adr}
theorem one_in {x : Int} (h : x.natAbs = 1) : inV (.int x) [.int 1, .int (-1)] = true := by
  rcases Int.natAbs_eq_iff.mp h with rfl | rfl <;> rfl
def sp_is_long_matrix (K : PySem.W.Frag) : Sp := fun vs H Q _ => ∃ v M n, vs = [.int (n : Nat), v] ∧ MtAt K H true v M ∧ Sq n M ∧ N4 n ∧ Ab BB M ∧ (detP M).natAbs = 1 ∧ ∀ H', Same H H' → Q (.bl true) H'
theorem ok_is_long_matrix (T : Txt K mg A) : FnOk P w K mg base CX0 4 A.a_is_long_matrix A.d_is_long_matrix ["size", "value"] (sp_is_long_matrix K) := by
  have G_is_long_square : FnOk P w K mg base CX0 3 A.a_is_long_square A.d_is_long_square ["size", "value"] (sp_is_long_square K) := ok_is_long_square T
  have G_determinant_of : FnOk P w K mg base CX0 3 A.a_determinant_of A.d_determinant_of ["lines"] (sp_determinant_of K) := ok_determinant_of T
  refine T.f_is_long_matrix.ok sc_is_long_matrix (fun vs H Q E h => ?_) (fun cdv B out t H vs Q E hr h => ?_)
  · obtain ⟨v, M, n, rfl, _⟩ := h
    rfl
  · obtain ⟨v, M, n, rfl, hM, sM, h4, hb, hd, q⟩ := h
    refine ⟨_, (pss_one (ps_ret (pe_and (pe_call G_is_long_square (hr.mono (by decide)) (by rfl) T.g_is_long_square T.f_is_long_square.kp (b_is_long_square T) .nil pass0 (pa_cons (pv 0) (pa_cons (pv 1) pa_nil))) (pe_one (pe_cmpR op_in_seq (pe_call G_determinant_of (hr.mono (by decide)) (by rfl) T.g_determinant_of T.f_determinant_of.kp (b_determinant_of T) .nil pass0 (pa_cons (pv 1) pa_nil)) (pe_tup (pa_cons pe_int (pa_cons (pe_un un_neg pe_int) pa_nil))) (by rfl)))))), ?_⟩
    refine ⟨_, rfl, _, rfl, v, matD M, n, rfl, mt_jd hM, by have := h4.four; omega, fun H1 e1 => ?_⟩
    rw [sq_long sM]
    obtain ⟨a, ev, hA⟩ := SqAt.mt (hM.mono e1) sM
    subst ev
    refine ⟨_, rfl, iteT ⟨_, rfl, a, n, M, rfl, hA, h4.four, hb, fun H2 e2 => ?_⟩⟩
    refine ⟨_, rfl, by show 2 ≤ sizeLine; decide, fun p hp => ⟨p, _, rfl, .inr (.inl (.inl upd_same)), rfl, rfl, ?_⟩⟩
    have h1 := q _ (e1.trans (e2.trans (same_new (o := .tup [.int 1, .int (-1)]) hp)))
    rw [← one_in hd] at h1
    exact h1
def sp_size_of (K : PySem.W.Frag) : Sp := fun vs H Q _ => ∃ a xs n, vs = [.ref a] ∧ SqT K H a xs ∧ xs.length = n ∧ N4 n ∧ Q (.int (n : Nat)) H
theorem ok_size_of (T : Txt K mg A) : FnOk P w K mg base CX0 1 A.a_size_of A.d_size_of ["value"] (sp_size_of K) := by
  refine T.f_size_of.ok sc_size_of (fun vs H Q E h => ?_) (fun cdv B out t H vs Q E hr h => ?_)
  · obtain ⟨a, xs, n, rfl, _⟩ := h
    rfl
  · obtain ⟨a, xs, n, rfl, hs, hl, h4, q⟩ := h
    refine ⟨_, (pss_cons (ps_if (PW.pt (pw_and (pt_val (pe_callB call_isi (by rfl) T.n_isinstance (by decide +kernel) (pa_cons (pv 0) (pa_cons (pe_bltn (v := .ty "tuple") (by rfl) T.n_tuple (by decide +kernel) rfl) pa_nil)))) (pw_and1 (pt_cmpR op_in_seq (pe_callB call_len_seq (by rfl) T.n_len (by decide +kernel) (pa_cons (pv 0) pa_nil)) (pe_glob (v := .ref A.t_SIZES) rfl T.c_SIZES rfl) (by rfl))))) (pss_one (ps_ret (pe_callB call_len_seq (by rfl) T.n_len (by decide +kernel) (pa_cons (pv 0) pa_nil)))) pss_nil)
      (pss_one (ps_ret pe_int))), ?_⟩
    refine ⟨_, rfl, _, _, _, _, _, rfl, .ty "tuple", tyx_t hs, kit_ty (by decide +kernel : kitB "tuple" "tuple" = some true), ⟨_, rfl, iteT ?_⟩⟩
    refine ⟨_, rfl, _, _, rfl, Or.inr hs, _, _, rfl, .inr (T.v_SIZES H), rfl, rfl, _, rfl, ?_⟩
    rw [hl]
    refine if_pos_of (in_sizes h4) ?_
    refine ⟨_, rfl, _, _, rfl, Or.inr hs, ?_⟩
    rw [hl]
    exact q
def sp_fits_table (K : PySem.W.Frag) : Sp := fun vs H Q _ => ∃ v M n, vs = [.int (n : Nat), v] ∧ MtAt K H true v M ∧ Sq n M ∧ N4 n ∧ Ab TT60 M ∧ Sy n M ∧ ∀ H', Same H H' → Q (.bl true) H'
theorem ok_fits_table (T : Txt K mg A) : FnOk P w K mg base CX0 6 A.a_fits_table A.d_fits_table ["size", "value"] (sp_fits_table K) := by
  have G_fits_square : FnOk P w K mg base CX0 5 A.a_fits_square A.d_fits_square ["size", "value"] (sp_fits_square K) := ok_fits_square T
  have G_turned : FnOk P w K mg base CX0 1 A.a_turned A.d_turned ["lines"] (sp_turned K) := ok_turned T
  refine T.f_fits_table.ok sc_fits_table (fun vs H Q E h => ?_) (fun cdv B out t H vs Q E hr h => ?_)
  · obtain ⟨v, M, n, rfl, _⟩ := h
    rfl
  · obtain ⟨v, M, n, rfl, hM, sM, h4, hb, hy, q⟩ := h
    refine ⟨_, (pss_one (ps_ret (pe_and (pe_call G_fits_square (hr.mono (by decide)) (by rfl) T.g_fits_square T.f_fits_square.kp (b_fits_square T) .nil pass0 (pa_cons (pv 0) (pa_cons (pv 1) pa_nil))) (pe_one (pe_cmpR (op_eqD hr.units) (pe_call G_turned (hr.mono (by decide)) (by rfl) T.g_turned T.f_turned.kp (b_turned T) .nil pass0 (pa_cons (pv 1) pa_nil)) (pv 1) (nomark _)))))), ?_⟩
    refine ⟨_, rfl, _, rfl, v, matD M, n, rfl, mt_jd hM, h4, fun H1 e1 => ?_⟩
    rw [sq_fits sM hb]
    refine ⟨_, rfl, iteT ⟨_, rfl, true, v, M, n, rfl, hM.mono e1, sM.ne, sM.pos, sM.row, fun t1 H2 e2 h2 => ?_⟩⟩
    refine ⟨_, rfl, eq_mat h2 (hM.mono (e1.trans e2)) ?_⟩
    have e : trM n M = M := hy
    rw [decide_eq_true e]
    exact q _ (e1.trans e2)
def sp_fits_matrix (K : PySem.W.Frag) : Sp := fun vs H Q _ => ∃ v M n, vs = [.int (n : Nat), v] ∧ MtAt K H true v M ∧ Sq n M ∧ N4 n ∧ Ab TT60 M ∧ (detP M).natAbs = 1 ∧ ∀ H', Same H H' → Q (.bl true) H'
theorem ok_fits_matrix (T : Txt K mg A) : FnOk P w K mg base CX0 6 A.a_fits_matrix A.d_fits_matrix ["size", "value"] (sp_fits_matrix K) := by
  have G_fits_square : FnOk P w K mg base CX0 5 A.a_fits_square A.d_fits_square ["size", "value"] (sp_fits_square K) := ok_fits_square T
  have G_is_long_matrix : FnOk P w K mg base CX0 4 A.a_is_long_matrix A.d_is_long_matrix ["size", "value"] (sp_is_long_matrix K) := ok_is_long_matrix T
  refine T.f_fits_matrix.ok sc_fits_matrix (fun vs H Q E h => ?_) (fun cdv B out t H vs Q E hr h => ?_)
  · obtain ⟨v, M, n, rfl, _⟩ := h
    rfl
  · obtain ⟨v, M, n, rfl, hM, sM, h4, hb, hd, q⟩ := h
    refine ⟨_, (pss_one (ps_ret (pe_and (pe_call G_fits_square (hr.mono (by decide)) (by rfl) T.g_fits_square T.f_fits_square.kp (b_fits_square T) .nil pass0 (pa_cons (pv 0) (pa_cons (pv 1) pa_nil))) (pe_one (pe_call G_is_long_matrix (hr.mono (by decide)) (by rfl) T.g_is_long_matrix T.f_is_long_matrix.kp (b_is_long_matrix T) .nil pass0 (pa_cons (pv 0) (pa_cons (pv 1) pa_nil))))))), ?_⟩
    refine ⟨_, rfl, _, rfl, v, matD M, n, rfl, mt_jd hM, h4, fun H1 e1 => ?_⟩
    rw [sq_fits sM hb]
    exact ⟨_, rfl, iteT ⟨_, rfl, _, rfl, v, M, n, rfl, hM.mono e1, sM, h4, hb.mono tt_bb, hd, fun H2 e2 => q H2 (e1.trans e2)⟩⟩
def sp_need_row (K : PySem.W.Frag) : Sp := fun vs H Q _ => ∃ v r n, vs = [.int (n : Nat), v] ∧ RwAt K H true v r ∧ r.length = n ∧ N4 n ∧ Rb TT60 r ∧ ∀ u H', Same H H' → Q u H'
theorem ok_need_row (T : Txt K mg A) : FnOk P w K mg base CX0 5 A.a_need_row A.d_need_row ["size", "row"] (sp_need_row K) := by
  have G_fits_row : FnOk P w K mg base CX0 4 A.a_fits_row A.d_fits_row ["size", "value"] (sp_fits_row K) := ok_fits_row T
  refine T.f_need_row.ok sc_need_row (fun vs H Q E h => ?_) (fun cdv B out t H vs Q E hr h => ?_)
  · obtain ⟨v, r, n, rfl, _⟩ := h
    rfl
  · obtain ⟨v, r, n, rfl, hr0, hl, h4, hb, q⟩ := h
    refine ⟨_, (pss_one (ps_if (pt_not (pt_val (pe_call G_fits_row (hr.mono (by decide)) (by rfl) T.g_fits_row T.f_fits_row.kp (b_fits_row T) .nil pass0 (pa_cons (pv 0) (pa_cons (pv 1) pa_nil))))) (pss_one ps_never) pss_nil)), ?_⟩
    refine ⟨_, rfl, _, rfl, v, rowD r, n, rfl, rw_jd hr0, h4, fun H1 e1 => ?_⟩
    rw [intsD_row hl hb]
    exact ⟨_, rfl, iteF (q _ H1 e1)⟩
def sp_need_table (K : PySem.W.Frag) : Sp := fun vs H Q _ => ∃ v M n, vs = [.int (n : Nat), v] ∧ MtAt K H true v M ∧ Sq n M ∧ N4 n ∧ Ab TT60 M ∧ Sy n M ∧ ∀ u H', Same H H' → Q u H'
theorem ok_need_table (T : Txt K mg A) : FnOk P w K mg base CX0 7 A.a_need_table A.d_need_table ["size", "table"] (sp_need_table K) := by
  have G_fits_table : FnOk P w K mg base CX0 6 A.a_fits_table A.d_fits_table ["size", "value"] (sp_fits_table K) := ok_fits_table T
  refine T.f_need_table.ok sc_need_table (fun vs H Q E h => ?_) (fun cdv B out t H vs Q E hr h => ?_)
  · obtain ⟨v, M, n, rfl, _⟩ := h
    rfl
  · obtain ⟨v, M, n, rfl, hM, sM, h4, hb, hy, q⟩ := h
    refine ⟨_, (pss_one (ps_if (pt_not (pt_val (pe_call G_fits_table (hr.mono (by decide)) (by rfl) T.g_fits_table T.f_fits_table.kp (b_fits_table T) .nil pass0 (pa_cons (pv 0) (pa_cons (pv 1) pa_nil))))) (pss_one ps_never) pss_nil)), ?_⟩
    exact ⟨_, rfl, _, rfl, v, M, n, rfl, hM, sM, h4, hb, hy, fun H1 e1 => ⟨_, rfl, iteF (q _ H1 e1)⟩⟩
def sp_need_matrix (K : PySem.W.Frag) : Sp := fun vs H Q _ => ∃ v M n, vs = [.int (n : Nat), v] ∧ MtAt K H true v M ∧ Sq n M ∧ N4 n ∧ Ab TT60 M ∧ (detP M).natAbs = 1 ∧ ∀ u H', Same H H' → Q u H'
theorem ok_need_matrix (T : Txt K mg A) : FnOk P w K mg base CX0 7 A.a_need_matrix A.d_need_matrix ["size", "matrix"] (sp_need_matrix K) := by
  have G_fits_matrix : FnOk P w K mg base CX0 6 A.a_fits_matrix A.d_fits_matrix ["size", "value"] (sp_fits_matrix K) := ok_fits_matrix T
  refine T.f_need_matrix.ok sc_need_matrix (fun vs H Q E h => ?_) (fun cdv B out t H vs Q E hr h => ?_)
  · obtain ⟨v, M, n, rfl, _⟩ := h
    rfl
  · obtain ⟨v, M, n, rfl, hM, sM, h4, hb, hd, q⟩ := h
    refine ⟨_, (pss_one (ps_if (pt_not (pt_val (pe_call G_fits_matrix (hr.mono (by decide)) (by rfl) T.g_fits_matrix T.f_fits_matrix.kp (b_fits_matrix T) .nil pass0 (pa_cons (pv 0) (pa_cons (pv 1) pa_nil))))) (pss_one ps_never) pss_nil)), ?_⟩
    exact ⟨_, rfl, _, rfl, v, M, n, rfl, hM, sM, h4, hb, hd, fun H1 e1 => ⟨_, rfl, iteF (q _ H1 e1)⟩⟩
end
end K06

set_option maxHeartbeats 1000000
namespace My
open PySem PySem.Spec PyProof.Rows L2 ZN
theorem tt_lt : TT60 < 2 ^ 399999 := Nat.lt_trans (by decide : TT60 < 2 ^ 200) (Nat.pow_lt_pow_right (by decide) (by decide))
theorem tt_wd {M : List (List Int)} (h : Ab TT60 M) : AllW M := h.wd tt_lt
theorem tt_wdr {r : List Int} (h : Rb TT60 r) : ∀ x ∈ r, Wd x := h.wd tt_lt
theorem tt4_lt {n : Nat} (h : n ≤ 4) : n * (TT60 * TT60) < 2 ^ 399999 :=
  Nat.lt_of_le_of_lt (Nat.mul_le_mul_right _ h) (Nat.lt_trans (by decide : 4 * (TT60 * TT60) < 2 ^ 402) (Nat.pow_lt_pow_right (by decide) (by decide)))
theorem mul_wd {n : Nat} {A B : List (List Int)} (h4 : n ≤ 4) (a : Sq n A) (b : Sq n B) (ha : Ab TT60 A) (hb : Ab TT60 B) : AllW (mulM n A B) := (Ab.mul a b ha hb).wd (tt4_lt h4)
theorem img_wd {n : Nat} {A : List (List Int)} {r : List Int} (h4 : n ≤ 4) (a : Sq n A) (hr : r.length = n) (ha : Ab TT60 A) (hb : Rb TT60 r) : ∀ x ∈ imgL A r, Wd x := (Rb.img a hr ha hb).wd (tt4_lt h4)
/-- a table, a matrix, a row, as the program lets them -/
structure Tab (n : Nat) (T : List (List Int)) : Prop where
  sq : Sq n T
  ab : Ab TT60 T
  sy : Sy n T
structure Mx (n : Nat) (U : List (List Int)) : Prop where
  sq : Sq n U
  ab : Ab TT60 U
  det : (detP U).natAbs = 1
structure Rw (n : Nat) (r : List Int) : Prop where
  len : r.length = n
  ab : Rb TT60 r
theorem map_irow (f : Int → PyData) (r : List Int) : (List.range (irow r).length).map (fun k => f (r.getD k 0)) = r.map f := by
  have e : (irow r).length = r.length := by simp [irow]
  rw [e]
  apply List.ext_getElem
  · simp
  · intro k h1 h2
    simp only [List.length_map, List.length_range] at h1
    simp [h1]
end My
namespace K06
open PySem PySem.Spec PyProof.Rows L2 My ZN
section
variable {P : Program} {w : World} {K : PySem.W.Frag} {mg : Str → Option Value} {base : Heap} {A : Adr}
theorem mt_size {H : Hp} {v : V} {n : Nat} {M : List (List Int)} (h : MtAt K H true v M) (s : Sq n M) : ∃ a xs, v = .ref a ∧ SqT K H a xs ∧ xs.length = n := by
  obtain ⟨a, ls, rfl, hs, hr⟩ := h
  exact ⟨a, ls, rfl, hs, (rows_k hr).1.trans s.len⟩
theorem rw_size {H : Hp} {v : V} {n : Nat} {r : List Int} (h : RwAt K H true v r) (s : r.length = n) : ∃ a xs, v = .ref a ∧ SqT K H a xs ∧ xs.length = n := by
  obtain ⟨a, rfl, hs⟩ := h
  exact ⟨a, irow r, rfl, hs, by simpa [irow] using s⟩
def sp_matrix_product (K : PySem.W.Frag) : Sp := fun vs H Q _ => ∃ v u n A B, vs = [v, u] ∧ MtAt K H true v A ∧ MtAt K H true u B ∧ N4 n ∧ Mx n A ∧ Mx n B ∧ ∀ v' H', Same H H' → MtAt K H' true v' (mulM n A B) → Q v' H'
theorem ok_matrix_product (T : Txt K mg A) : FnOk P w K mg base CX0 8 A.a_matrix_product A.d_matrix_product ["one", "other"] (sp_matrix_product K) := by
  have G_multiplied : FnOk P w K mg base CX0 2 A.a_multiplied A.d_multiplied ["one", "other"] (sp_multiplied K) := ok_multiplied T
  have G_size_of : FnOk P w K mg base CX0 1 A.a_size_of A.d_size_of ["value"] (sp_size_of K) := ok_size_of T
  have G_need_matrix : FnOk P w K mg base CX0 7 A.a_need_matrix A.d_need_matrix ["size", "matrix"] (sp_need_matrix K) := ok_need_matrix T
  refine T.f_matrix_product.ok sc_matrix_product (fun vs H Q E h => ?_) (fun cdv B out t H vs Q E hr h => ?_)
  · obtain ⟨v, u, n, A, B, rfl, _⟩ := h
    rfl
  · obtain ⟨v, u, n, A1, B1, rfl, hA, hB, h4, a, b, q⟩ := h
    refine ⟨_, (pss_cons (ps_set (i := 2) sc_matrix_product.nd rfl (Or.inl rfl) (pe_call G_size_of (hr.mono (by decide)) (by rfl) T.g_size_of T.f_size_of.kp (b_size_of T) .nil pass0 (pa_cons (pv 0) pa_nil)))
      (pss_cons (ps_expr (pe_call G_need_matrix (hr.mono (by decide)) (by rfl) T.g_need_matrix T.f_need_matrix.kp (b_need_matrix T) .nil pass0 (pa_cons (pv 2) (pa_cons (pv 0) pa_nil))))
      (pss_cons (ps_expr (pe_call G_need_matrix (hr.mono (by decide)) (by rfl) T.g_need_matrix T.f_need_matrix.kp (b_need_matrix T) .nil pass0 (pa_cons (pv 2) (pa_cons (pv 1) pa_nil))))
      (pss_one (ps_ret (pe_call G_multiplied (hr.mono (by decide)) (by rfl) T.g_multiplied T.f_multiplied.kp (b_multiplied T) .nil pass0 (pa_cons (pv 0) (pa_cons (pv 1) pa_nil)))))))), ?_⟩
    obtain ⟨p, xs, ev, hp, hl⟩ := mt_size hA a.sq
    refine ⟨_, rfl, p, xs, n, by rw [ev]; rfl, hp, hl, h4, ?_⟩
    refine ⟨_, rfl, _, rfl, v, A1, n, rfl, hA, a.sq, h4, a.ab, a.det, fun _ H1 e1 => ?_⟩
    refine ⟨_, rfl, _, rfl, u, B1, n, rfl, hB.mono e1, b.sq, h4, b.ab, b.det, fun _ H2 e2 => ?_⟩
    have e := e1.trans e2
    exact ⟨_, rfl, _, rfl, true, v, u, A1, B1, n, rfl, hA.mono e, hB.mono e, b.sq.ne, b.sq.pos, b.sq.row, tt_wd a.ab, tt_wd b.ab, a.sq.lt, b.sq.few, a.sq.rlt, fun v' H3 e3 h3 => q v' H3 (e.trans e3) h3⟩
def sp_matrix_back (K : PySem.W.Frag) : Sp := fun vs H Q _ => ∃ v n A, vs = [v] ∧ MtAt K H true v A ∧ N4 n ∧ Mx n A ∧ ∀ v' H', Same H H' → MtAt K H' true v' (undP A) → Q v' H'
theorem ok_matrix_back (T : Txt K mg A) : FnOk P w K mg base CX0 8 A.a_matrix_back A.d_matrix_back ["matrix"] (sp_matrix_back K) := by
  have G_undone : FnOk P w K mg base CX0 6 A.a_undone A.d_undone ["matrix"] (sp_undone K) := ok_undone T
  have G_size_of : FnOk P w K mg base CX0 1 A.a_size_of A.d_size_of ["value"] (sp_size_of K) := ok_size_of T
  have G_need_matrix : FnOk P w K mg base CX0 7 A.a_need_matrix A.d_need_matrix ["size", "matrix"] (sp_need_matrix K) := ok_need_matrix T
  refine T.f_matrix_back.ok sc_matrix_back (fun vs H Q E h => ?_) (fun cdv B out t H vs Q E hr h => ?_)
  · obtain ⟨v, n, A, rfl, _⟩ := h
    rfl
  · obtain ⟨v, n, A1, rfl, hA, h4, a, q⟩ := h
    refine ⟨_, (pss_cons (ps_expr (pe_call G_need_matrix (hr.mono (by decide)) (by rfl) T.g_need_matrix T.f_need_matrix.kp (b_need_matrix T) .nil pass0 (pa_cons (pe_call G_size_of (hr.mono (by decide)) (by rfl) T.g_size_of T.f_size_of.kp (b_size_of T) .nil pass0 (pa_cons (pv 0) pa_nil)) (pa_cons (pv 0) pa_nil))))
      (pss_one (ps_ret (pe_call G_undone (hr.mono (by decide)) (by rfl) T.g_undone T.f_undone.kp (b_undone T) .nil pass0 (pa_cons (pv 0) pa_nil))))), ?_⟩
    obtain ⟨p, xs, ev, hp, hl⟩ := mt_size hA a.sq
    refine ⟨_, rfl, p, xs, n, by rw [ev]; rfl, hp, hl, h4, _, rfl, v, A1, n, rfl, hA, a.sq, h4, a.ab, a.det, fun _ H1 e1 => ?_⟩
    exact ⟨_, rfl, v, A1, n, rfl, hA.mono e1, a.sq, h4, a.ab.mono tt_bb, a.det, fun v' H3 e3 h3 => q v' H3 (e1.trans e3) h3⟩
def sp_led_row (K : PySem.W.Frag) : Sp := fun vs H Q _ => ∃ v u n A r, vs = [v, u] ∧ MtAt K H true v A ∧ RwAt K H true u r ∧ N4 n ∧ Mx n A ∧ Rw n r ∧ ∀ v' H', Same H H' → RwAt K H' true v' (imgL A r) → Q v' H'
theorem ok_led_row (T : Txt K mg A) : FnOk P w K mg base CX0 8 A.a_led_row A.d_led_row ["matrix", "row"] (sp_led_row K) := by
  have G_image : FnOk P w K mg base CX0 2 A.a_image A.d_image ["matrix", "row"] (sp_image K) := ok_image T
  have G_size_of : FnOk P w K mg base CX0 1 A.a_size_of A.d_size_of ["value"] (sp_size_of K) := ok_size_of T
  have G_need_matrix : FnOk P w K mg base CX0 7 A.a_need_matrix A.d_need_matrix ["size", "matrix"] (sp_need_matrix K) := ok_need_matrix T
  have G_need_row : FnOk P w K mg base CX0 5 A.a_need_row A.d_need_row ["size", "row"] (sp_need_row K) := ok_need_row T
  refine T.f_led_row.ok sc_led_row (fun vs H Q E h => ?_) (fun cdv B out t H vs Q E hr h => ?_)
  · obtain ⟨v, u, n, A, r, rfl, _⟩ := h
    rfl
  · obtain ⟨v, u, n, A1, r, rfl, hA, hr1, h4, a, b, q⟩ := h
    refine ⟨_, (pss_cons (ps_set (i := 2) sc_led_row.nd rfl (Or.inl rfl) (pe_call G_size_of (hr.mono (by decide)) (by rfl) T.g_size_of T.f_size_of.kp (b_size_of T) .nil pass0 (pa_cons (pv 0) pa_nil)))
      (pss_cons (ps_expr (pe_call G_need_matrix (hr.mono (by decide)) (by rfl) T.g_need_matrix T.f_need_matrix.kp (b_need_matrix T) .nil pass0 (pa_cons (pv 2) (pa_cons (pv 0) pa_nil))))
      (pss_cons (ps_expr (pe_call G_need_row (hr.mono (by decide)) (by rfl) T.g_need_row T.f_need_row.kp (b_need_row T) .nil pass0 (pa_cons (pv 2) (pa_cons (pv 1) pa_nil))))
      (pss_one (ps_ret (pe_call G_image (hr.mono (by decide)) (by rfl) T.g_image T.f_image.kp (b_image T) .nil pass0 (pa_cons (pv 0) (pa_cons (pv 1) pa_nil)))))))), ?_⟩
    obtain ⟨p, xs, ev, hp, hl⟩ := mt_size hA a.sq
    refine ⟨_, rfl, p, xs, n, by rw [ev]; rfl, hp, hl, h4, ?_⟩
    refine ⟨_, rfl, _, rfl, v, A1, n, rfl, hA, a.sq, h4, a.ab, a.det, fun _ H1 e1 => ?_⟩
    refine ⟨_, rfl, _, rfl, u, r, n, rfl, hr1.mono e1, b.len, h4, b.ab, fun _ H2 e2 => ?_⟩
    have e := e1.trans e2
    exact ⟨_, rfl, _, rfl, v, u, A1, true, r, rfl, hA.mono e, hr1.mono e, tt_wd a.ab, tt_wdr b.ab, a.sq.lt, a.sq.rlt, fun v' H3 e3 h3 => q v' H3 (e.trans e3) h3⟩
def sp_led_table (K : PySem.W.Frag) : Sp := fun vs H Q _ => ∃ v u n S U, vs = [v, u] ∧ MtAt K H true v S ∧ MtAt K H true u U ∧ N4 n ∧ Tab n S ∧ Mx n U ∧ ∀ v' H', Same H H' → MtAt K H' true v' (ledM n S U) → Q v' H'
theorem ok_led_table (T : Txt K mg A) : FnOk P w K mg base CX0 8 A.a_led_table A.d_led_table ["table", "matrix"] (sp_led_table K) := by
  have G_led_by : FnOk P w K mg base CX0 3 A.a_led_by A.d_led_by ["table", "matrix"] (sp_led_by K) := ok_led_by T
  have G_size_of : FnOk P w K mg base CX0 1 A.a_size_of A.d_size_of ["value"] (sp_size_of K) := ok_size_of T
  have G_need_matrix : FnOk P w K mg base CX0 7 A.a_need_matrix A.d_need_matrix ["size", "matrix"] (sp_need_matrix K) := ok_need_matrix T
  have G_need_table : FnOk P w K mg base CX0 7 A.a_need_table A.d_need_table ["size", "table"] (sp_need_table K) := ok_need_table T
  refine T.f_led_table.ok sc_led_table (fun vs H Q E h => ?_) (fun cdv B out t H vs Q E hr h => ?_)
  · obtain ⟨v, u, n, S, U, rfl, _⟩ := h
    rfl
  · obtain ⟨v, u, n, S, U, rfl, hS, hU, h4, s, b, q⟩ := h
    refine ⟨_, (pss_cons (ps_set (i := 2) sc_led_table.nd rfl (Or.inl rfl) (pe_call G_size_of (hr.mono (by decide)) (by rfl) T.g_size_of T.f_size_of.kp (b_size_of T) .nil pass0 (pa_cons (pv 0) pa_nil)))
      (pss_cons (ps_expr (pe_call G_need_table (hr.mono (by decide)) (by rfl) T.g_need_table T.f_need_table.kp (b_need_table T) .nil pass0 (pa_cons (pv 2) (pa_cons (pv 0) pa_nil))))
      (pss_cons (ps_expr (pe_call G_need_matrix (hr.mono (by decide)) (by rfl) T.g_need_matrix T.f_need_matrix.kp (b_need_matrix T) .nil pass0 (pa_cons (pv 2) (pa_cons (pv 1) pa_nil))))
      (pss_one (ps_ret (pe_call G_led_by (hr.mono (by decide)) (by rfl) T.g_led_by T.f_led_by.kp (b_led_by T) .nil pass0 (pa_cons (pv 0) (pa_cons (pv 1) pa_nil)))))))), ?_⟩
    obtain ⟨p, xs, ev, hp, hl⟩ := mt_size hS s.sq
    refine ⟨_, rfl, p, xs, n, by rw [ev]; rfl, hp, hl, h4, ?_⟩
    refine ⟨_, rfl, _, rfl, v, S, n, rfl, hS, s.sq, h4, s.ab, s.sy, fun _ H1 e1 => ?_⟩
    refine ⟨_, rfl, _, rfl, u, U, n, rfl, hU.mono e1, b.sq, h4, b.ab, b.det, fun _ H2 e2 => ?_⟩
    have e := e1.trans e2
    exact ⟨_, rfl, _, rfl, v, u, n, S, U, rfl, hS.mono e, hU.mono e, s.sq, b.sq, tt_wd s.ab, tt_wd b.ab, mul_wd h4.four s.sq b.sq s.ab b.ab, fun v' H3 e3 h3 => q v' H3 (e.trans e3) h3⟩
def sp_moved_table (K : PySem.W.Frag) : Sp := fun vs H Q _ => ∃ v u n S U, vs = [v, u] ∧ MtAt K H true v S ∧ MtAt K H true u U ∧ N4 n ∧ Tab n S ∧ Mx n U ∧ ∀ v' H', Same H H' → MtAt K H' true v' (movM n S U) → Q v' H'
theorem ok_moved_table (T : Txt K mg A) : FnOk P w K mg base CX0 8 A.a_moved_table A.d_moved_table ["table", "matrix"] (sp_moved_table K) := by
  have G_moved_by : FnOk P w K mg base CX0 3 A.a_moved_by A.d_moved_by ["table", "matrix"] (sp_moved_by K) := ok_moved_by T
  have G_size_of : FnOk P w K mg base CX0 1 A.a_size_of A.d_size_of ["value"] (sp_size_of K) := ok_size_of T
  have G_need_matrix : FnOk P w K mg base CX0 7 A.a_need_matrix A.d_need_matrix ["size", "matrix"] (sp_need_matrix K) := ok_need_matrix T
  have G_need_table : FnOk P w K mg base CX0 7 A.a_need_table A.d_need_table ["size", "table"] (sp_need_table K) := ok_need_table T
  refine T.f_moved_table.ok sc_moved_table (fun vs H Q E h => ?_) (fun cdv B out t H vs Q E hr h => ?_)
  · obtain ⟨v, u, n, S, U, rfl, _⟩ := h
    rfl
  · obtain ⟨v, u, n, S, U, rfl, hS, hU, h4, s, b, q⟩ := h
    refine ⟨_, (pss_cons (ps_set (i := 2) sc_moved_table.nd rfl (Or.inl rfl) (pe_call G_size_of (hr.mono (by decide)) (by rfl) T.g_size_of T.f_size_of.kp (b_size_of T) .nil pass0 (pa_cons (pv 0) pa_nil)))
      (pss_cons (ps_expr (pe_call G_need_table (hr.mono (by decide)) (by rfl) T.g_need_table T.f_need_table.kp (b_need_table T) .nil pass0 (pa_cons (pv 2) (pa_cons (pv 0) pa_nil))))
      (pss_cons (ps_expr (pe_call G_need_matrix (hr.mono (by decide)) (by rfl) T.g_need_matrix T.f_need_matrix.kp (b_need_matrix T) .nil pass0 (pa_cons (pv 2) (pa_cons (pv 1) pa_nil))))
      (pss_one (ps_ret (pe_call G_moved_by (hr.mono (by decide)) (by rfl) T.g_moved_by T.f_moved_by.kp (b_moved_by T) .nil pass0 (pa_cons (pv 0) (pa_cons (pv 1) pa_nil)))))))), ?_⟩
    obtain ⟨p, xs, ev, hp, hl⟩ := mt_size hS s.sq
    refine ⟨_, rfl, p, xs, n, by rw [ev]; rfl, hp, hl, h4, ?_⟩
    refine ⟨_, rfl, _, rfl, v, S, n, rfl, hS, s.sq, h4, s.ab, s.sy, fun _ H1 e1 => ?_⟩
    refine ⟨_, rfl, _, rfl, u, U, n, rfl, hU.mono e1, b.sq, h4, b.ab, b.det, fun _ H2 e2 => ?_⟩
    have e := e1.trans e2
    exact ⟨_, rfl, _, rfl, v, u, n, S, U, rfl, hS.mono e, hU.mono e, s.sq, b.sq, tt_wd s.ab, tt_wd b.ab, mul_wd h4.four s.sq b.sq.tr s.ab (b.ab.tr b.sq), fun v' H3 e3 h3 => q v' H3 (e.trans e3) h3⟩
def sp_table_value (K : PySem.W.Frag) : Sp := fun vs H Q _ => ∃ v u n S r, vs = [v, u] ∧ MtAt K H true v S ∧ RwAt K H true u r ∧ N4 n ∧ Tab n S ∧ Rw n r ∧ ∀ H', Same H H' → Q (.int (valL S r)) H'
theorem ok_table_value (T : Txt K mg A) : FnOk P w K mg base CX0 8 A.a_table_value A.d_table_value ["table", "row"] (sp_table_value K) := by
  have G_value_at : FnOk P w K mg base CX0 4 A.a_value_at A.d_value_at ["table", "row"] (sp_value_at K) := ok_value_at T
  have G_size_of : FnOk P w K mg base CX0 1 A.a_size_of A.d_size_of ["value"] (sp_size_of K) := ok_size_of T
  have G_need_table : FnOk P w K mg base CX0 7 A.a_need_table A.d_need_table ["size", "table"] (sp_need_table K) := ok_need_table T
  have G_need_row : FnOk P w K mg base CX0 5 A.a_need_row A.d_need_row ["size", "row"] (sp_need_row K) := ok_need_row T
  refine T.f_table_value.ok sc_table_value (fun vs H Q E h => ?_) (fun cdv B out t H vs Q E hr h => ?_)
  · obtain ⟨v, u, n, S, r, rfl, _⟩ := h
    rfl
  · obtain ⟨v, u, n, S, r, rfl, hS, hr1, h4, s, b, q⟩ := h
    refine ⟨_, (pss_cons (ps_set (i := 2) sc_table_value.nd rfl (Or.inl rfl) (pe_call G_size_of (hr.mono (by decide)) (by rfl) T.g_size_of T.f_size_of.kp (b_size_of T) .nil pass0 (pa_cons (pv 0) pa_nil)))
      (pss_cons (ps_expr (pe_call G_need_table (hr.mono (by decide)) (by rfl) T.g_need_table T.f_need_table.kp (b_need_table T) .nil pass0 (pa_cons (pv 2) (pa_cons (pv 0) pa_nil))))
      (pss_cons (ps_expr (pe_call G_need_row (hr.mono (by decide)) (by rfl) T.g_need_row T.f_need_row.kp (b_need_row T) .nil pass0 (pa_cons (pv 2) (pa_cons (pv 1) pa_nil))))
      (pss_one (ps_ret (pe_call G_value_at (hr.mono (by decide)) (by rfl) T.g_value_at T.f_value_at.kp (b_value_at T) .nil pass0 (pa_cons (pv 0) (pa_cons (pv 1) pa_nil)))))))), ?_⟩
    obtain ⟨p, xs, ev, hp, hl⟩ := mt_size hS s.sq
    refine ⟨_, rfl, p, xs, n, by rw [ev]; rfl, hp, hl, h4, ?_⟩
    refine ⟨_, rfl, _, rfl, v, S, n, rfl, hS, s.sq, h4, s.ab, s.sy, fun _ H1 e1 => ?_⟩
    refine ⟨_, rfl, _, rfl, u, r, n, rfl, hr1.mono e1, b.len, h4, b.ab, fun _ H2 e2 => ?_⟩
    have e := e1.trans e2
    exact ⟨_, rfl, _, rfl, v, u, S, r, rfl, hS.mono e, hr1.mono e, tt_wd s.ab, tt_wdr b.ab, img_wd h4.four s.sq b.len s.ab b.ab, s.sq.lt, s.sq.rlt, fun H3 e3 => q H3 (e.trans e3)⟩
theorem flat_few {n : Nat} {M : List (List Int)} (h4 : N4 n) (s : Sq n M) : M.flatten.length < 100000 := by
  rcases h4 with rfl | rfl | rfl
  · obtain ⟨a, b, rfl⟩ := len2 s.len
    have := s.row a (by simp); have := s.row b (by simp)
    simp; omega
  · obtain ⟨a, b, c, rfl⟩ := len3 s.len
    have := s.row a (by simp); have := s.row b (by simp); have := s.row c (by simp)
    simp; omega
  · obtain ⟨a, b, c, d, rfl⟩ := len4 s.len
    have := s.row a (by simp); have := s.row b (by simp); have := s.row c (by simp); have := s.row d (by simp)
    simp; omega
def sp_together (K : PySem.W.Frag) : Sp := fun vs H Q _ => ∃ v u n S U, vs = [v, u] ∧ MtAt K H true v S ∧ MtAt K H true u U ∧ N4 n ∧ Tab n S ∧ Tab n U ∧ ∀ H', Same H H' → Q (.int (togM S U)) H'
theorem ok_together (T : Txt K mg A) : FnOk P w K mg base CX0 8 A.a_together A.d_together ["one", "other"] (sp_together K) := by
  have G_made_together : FnOk P w K mg base CX0 2 A.a_made_together A.d_made_together ["one", "other"] (sp_made_together K) := ok_made_together T
  have G_size_of : FnOk P w K mg base CX0 1 A.a_size_of A.d_size_of ["value"] (sp_size_of K) := ok_size_of T
  have G_need_table : FnOk P w K mg base CX0 7 A.a_need_table A.d_need_table ["size", "table"] (sp_need_table K) := ok_need_table T
  refine T.f_together.ok sc_together (fun vs H Q E h => ?_) (fun cdv B out t H vs Q E hr h => ?_)
  · obtain ⟨v, u, n, S, U, rfl, _⟩ := h
    rfl
  · obtain ⟨v, u, n, S, U, rfl, hS, hU, h4, s, b, q⟩ := h
    refine ⟨_, (pss_cons (ps_set (i := 2) sc_together.nd rfl (Or.inl rfl) (pe_call G_size_of (hr.mono (by decide)) (by rfl) T.g_size_of T.f_size_of.kp (b_size_of T) .nil pass0 (pa_cons (pv 0) pa_nil)))
      (pss_cons (ps_expr (pe_call G_need_table (hr.mono (by decide)) (by rfl) T.g_need_table T.f_need_table.kp (b_need_table T) .nil pass0 (pa_cons (pv 2) (pa_cons (pv 0) pa_nil))))
      (pss_cons (ps_expr (pe_call G_need_table (hr.mono (by decide)) (by rfl) T.g_need_table T.f_need_table.kp (b_need_table T) .nil pass0 (pa_cons (pv 2) (pa_cons (pv 1) pa_nil))))
      (pss_one (ps_ret (pe_call G_made_together (hr.mono (by decide)) (by rfl) T.g_made_together T.f_made_together.kp (b_made_together T) .nil pass0 (pa_cons (pv 0) (pa_cons (pv 1) pa_nil)))))))), ?_⟩
    obtain ⟨p, xs, ev, hp, hl⟩ := mt_size hS s.sq
    refine ⟨_, rfl, p, xs, n, by rw [ev]; rfl, hp, hl, h4, ?_⟩
    refine ⟨_, rfl, _, rfl, v, S, n, rfl, hS, s.sq, h4, s.ab, s.sy, fun _ H1 e1 => ?_⟩
    refine ⟨_, rfl, _, rfl, u, U, n, rfl, hU.mono e1, b.sq, h4, b.ab, b.sy, fun _ H2 e2 => ?_⟩
    have e := e1.trans e2
    exact ⟨_, rfl, _, rfl, v, u, S, U, rfl, hS.mono e, hU.mono e, flat_few h4 s.sq, flat_few h4 b.sq, tt_wd s.ab, tt_wd b.ab, fun H3 e3 => q H3 (e.trans e3)⟩
def sp_square (K : PySem.W.Frag) : Sp := fun vs H Q _ => ∃ v n r, vs = [v] ∧ RwAt K H true v r ∧ N4 n ∧ Rw n r ∧ ∀ v' H', Same H H' → MtAt K H' true v' (sqM r) → Q v' H'
theorem ok_square (T : Txt K mg A) : FnOk P w K mg base CX0 8 A.a_square A.d_square ["row"] (sp_square K) := by
  have G_size_of : FnOk P w K mg base CX0 1 A.a_size_of A.d_size_of ["value"] (sp_size_of K) := ok_size_of T
  have G_need_row : FnOk P w K mg base CX0 5 A.a_need_row A.d_need_row ["size", "row"] (sp_need_row K) := ok_need_row T
  refine T.f_square.ok sc_square (fun vs H Q E h => ?_) (fun cdv B out t H vs Q E hr h => ?_)
  · obtain ⟨v, n, r, rfl, _⟩ := h
    rfl
  · obtain ⟨v, n, r, rfl, hr1, h4, b, q⟩ := h
    refine ⟨_, (pss_cons (ps_expr (pe_call G_need_row (hr.mono (by decide)) (by rfl) T.g_need_row T.f_need_row.kp (b_need_row T) .nil pass0 (pa_cons (pe_call G_size_of (hr.mono (by decide)) (by rfl) T.g_size_of T.f_size_of.kp (b_size_of T) .nil pass0 (pa_cons (pv 0) pa_nil)) (pa_cons (pv 0) pa_nil))))
      (pss_one (ps_ret (pe_callTy call_tuple_of (by rfl) T.n_tuple (by decide +kernel) (pa_cons (pe_lc (own := [("first", 2)]) (g := (gName 2)) (tt := tYes)  rfl sc_square.nd (pi_tup (pv 0)) (blkOk_by (own := [("first", 2)]) (N := names_square) (sc := defScope s_square) (by decide +kernel)) (fun _ _ _ _ _ => (pg_name (i := 2) sc_square.nd rfl (Or.inr rfl))) (fun _ _ _ _ _ => pts_nil) (fun _ _ _ _ _ => by apply My.pe_eq; (case h => exact (pe_callTy call_tuple_of (by rfl) T.n_tuple (by decide +kernel) (pa_cons (by exact (pe_lc (own := [("second", 1)]) (g := (gName 1)) (tt := tYes)  rfl sc_square.nd (pi_tup (pv 0)) (by (exact L2.blkOk_by (by kernel_rfl))) (fun _ _ _ _ _ => (pg_name (i := 1) sc_square.nd rfl (Or.inl rfl))) (fun _ _ _ _ _ => pts_nil) (fun _ _ _ _ _ => by apply My.pe_eq; (case h => exact (pe_op op_mulW (pv 2) (pv 1))); all_goals (first | exact rfl | (dsimp only [L2.Cx.blk, L2.Cx.nox, L2.cxOf]; done) | (dsimp only [L2.Cx.blk, L2.Cx.nox, L2.cxOf]; exact rfl))))) pa_nil))); all_goals (first | exact rfl | (dsimp only [L2.Cx.blk, L2.Cx.nox, L2.cxOf]; done) | (dsimp only [L2.Cx.blk, L2.Cx.nox, L2.cxOf]; exact rfl)))) pa_nil))))), ?_⟩
    obtain ⟨p, xs, ev, hp, hl⟩ := rw_size hr1 b.len
    refine ⟨_, rfl, p, xs, n, by rw [ev]; rfl, hp, hl, h4, _, rfl, v, r, n, rfl, hr1, b.len, h4, b.ab, fun _ H1 e1 => ?_⟩
    obtain ⟨a, rfl, ha0⟩ := hr1
    have ha := same_t e1 ha0
    have hz : (irow r).length < 100000 := by
      have := h4.four; have := b.len
      simp [irow]; omega
    have wd := tt_wdr b.ab
    dsimp only [tNext, tRet, tCB, tCons, tNil]
    refine comp_one (K := K) (walk_tup (a := a) (xs := irow r)) (fun k => rowD (r.map fun y => r.getD k 0 * y)) hz (fun H' e => same_t e ha) (fun R q0 => ⟨_, rfl, a, rfl, ⟨_, ha⟩, q0⟩) (fun x => rfl) ?_ ?_
    · intro m x D acc H3 A1 hm e3 hD hL hx hA
      obtain ⟨hm1, rfl⟩ := irow_get' hx
      dsimp only [tCB, tCons, tNil]
      refine comp_one (K := K) (walk_tup (a := a) (xs := irow r)) (fun c => .int (r.getD m 0 * r.getD c 0)) hz (fun H' e => same_t (e3.trans e) ha) (fun R r0 => ⟨_, rfl, a, rfl, ⟨_, same_t e3 ha⟩, r0⟩) (fun x => rfl) ?_ ?_
      · intro c y D2 acc2 H4 A2 hc e4 hD2 hL2 hy hA2
        obtain ⟨hc1, rfl⟩ := irow_get' hy
        exact ⟨_, rfl, _, rfl, _, _, rfl, rfl, Wd.mul (wd _ (mem_getD hm1)) (wd _ (mem_getD hc1)), hA2 _ _ (Same.refl _) fun u => .int _⟩
      · intro D2 ys H4 e4 hD2 hL2 hj
        rw [map_irow (fun y => .int (r.getD m 0 * y))] at hj
        have hj2 : JdAll K H4 ys ((r.map fun y => r.getD m 0 * y).map PyData.int) := by simpa [List.map_map, Function.comp_def] using hj
        rw [jd_ints_inv _ _ hj2] at hL2
        exact ⟨D2, _, rfl, .inl ⟨.inl (.inl hL2), fun l hl => hA _ _ (e4.trans (same_new hl)) fun u => row_new (e4 _ _ hL) hl⟩⟩
    · intro D ys H3 e3 hD hL hj
      rw [map_irow (fun x => rowD (r.map fun y => x * y))] at hj
      have hr2 : RowsAt K H3 ys ((sqM r).map irow) := jd_rows (by simpa [sqM, List.map_map, Function.comp_def] using hj)
      exact ⟨D, _, rfl, .inl ⟨.inl (.inl hL), fun l hl => q _ _ (e1.trans (e3.trans (same_new hl))) ⟨l, ys, rfl, .inl (.inl upd_same), rows_mono (same_new hl) hr2⟩⟩⟩
end
end K06

set_option maxHeartbeats 1000000
namespace K06
open PySem PySem.Spec PyProof.Rows L2 My ZN
section
variable {P : Program} {w : World} {K : PySem.W.Frag} {mg : Str → Option Value} {base : Heap} {A : Adr}
def sp_bag (K : PySem.W.Frag) : Sp := fun vs H Q _ => ∃ (a : Addr) (ns : List Int) (s : Int), vs = [.ref a, .int s] ∧ SqL K H a (ns.map V.int) ∧ 0 ≤ s ∧ s < 100 ∧ ∀ p H', Same H H' → H p = none → Bag H' p → Q (.ref p) H'
theorem fmod_nn {x m : Int} (h : 0 < m) : 0 ≤ x.fmod m := by
  rw [Int.fmod_eq_emod_of_nonneg _ (by omega)]
  exact Int.emod_nonneg _ (by omega)
theorem fmod_lt {x m : Int} (h : 0 < m) : x.fmod m < m := by
  rw [Int.fmod_eq_emod_of_nonneg _ (by omega)]
  exact Int.emod_lt_of_pos _ h
def cutI (ns : List Int) : List Int := (ns.drop (HT.sIx ns.length 0 none)).take (HT.sIx ns.length ns.length (some 1) - HT.sIx ns.length 0 none)
theorem cutI_eq (ns : List Int) : cutV (ns.map V.int) none (some 1) = (cutI ns).map V.int := by
  unfold cutV cutI
  rw [List.length_map, ← List.map_drop, ← List.map_take]
theorem max0 (j : Int) : 0 ≤ (if j > 0 then j else 0) := by split <;> omega
theorem big_ne : ((10 ^ (45 : Int).toNat) ^ (13 : Int).toNat : Int) ≠ 0 := by decide +kernel
theorem ne_a : (2305843009213693723 : Int) ≠ 0 := by decide
theorem ne_b : (2305843009213693951 : Int) ≠ 0 := by decide
theorem ok__law_bag (T : Txt K mg A) : FnOk P w K mg base CX0 1 A.a__law_bag A.d__law_bag ["_law_script", "_law_spot"] (sp_bag K) := by
  refine T.f__law_bag.ok sc__law_bag (fun vs H Q E h => ?_) (fun cdv B out t H vs Q E hr h => ?_)
  · obtain ⟨a, ns, s, rfl, _⟩ := h
    rfl
  · obtain ⟨a, ns, s, rfl, hs, h0, h1, q⟩ := h
    refine ⟨_, (pss_cons (ps_set (i := 2) sc__law_bag.nd rfl (Or.inl rfl) (pe_ifExp (pt_cmpR op_lt (pv 1) (pe_callB call_len_seq (by rfl) T.n_len (by decide +kernel) (pa_cons (pv 0) pa_nil)) (nomark _)) (pe_ix ix_list (pv 0) (pv 1) (fun _ _ => rfl)) (pe_op op_add (pe_op op_add (pe_callB (cr_sum rfl) (by rfl) T.n_sum (by decide +kernel) (pa_cons (pe_slice sl_list (pv 0) po_none (po_some pe_int)) pa_nil)) (pe_op op_mul pe_int (pv 1))) pe_int)))
      (pss_cons (ps_set (i := 3) sc__law_bag.nd rfl (Or.inl rfl) (pe_op op_modN (pe_callTy call_int1 (by rfl) T.n_int (by decide +kernel) (pa_cons (pe_callB call_abs (by rfl) T.n_abs (by decide +kernel) (pa_cons (pv 2) pa_nil)) pa_nil)) (pe_op op_powW (pe_op op_powW pe_int pe_int) pe_int)))
      (pss_cons (ps_set (i := 4) sc__law_bag.nd rfl (Or.inl rfl) (pe_op op_add (pe_op op_add (pe_op op_add (pe_op op_mul (pe_op op_modN (pe_callTy call_int1 (by rfl) T.n_int (by decide +kernel) (pa_cons (pv 3) pa_nil)) pe_int) pe_int) (pe_op op_mul pe_int (pv 1))) (pe_op op_mul pe_int (pe_callTy call_int1 (by rfl) T.n_int (by decide +kernel) (pa_cons (pe_cmpR op_lt (pv 2) pe_int (nomark _)) pa_nil)))) pe_int))
      (pss_one (ps_ret (pe_lst (pa_cons (pe_callB (call_max2 rfl) (by rfl) T.n_max (by decide +kernel) (pa_cons pe_int (pa_cons (pe_op op_sub (pv 3) (pe_op op_powW pe_int pe_int)) pa_nil))) (pa_cons (pe_op op_modN (pe_callTy call_int1 (by rfl) T.n_int (by decide +kernel) (pa_cons (pv 4) pa_nil)) pe_int) (pa_cons pe_int pa_nil))))))))), ?_⟩
    refine ⟨_, rfl, _, rfl, a, _, rfl, Or.inl hs, _, _, rfl, rfl, _, rfl, ?_⟩
    have fin : ∀ (x y : Int) (H1 : Hp), Same H H1 → 0 ≤ x → ∀ p, H1 p = none → 0 ≤ y → y < 2305843009213693951 → Q (.ref p) (upd H1 p (.lst [.int x, .int y, .int 0])) := fun x y H1 e hx p hp hy hy2 =>
      q p _ (e.trans (same_new hp)) (e.free hp) ⟨x, y, 0, upd_same, hx, hy, hy2⟩
    refine ite2 (fun c1 => ?_) (fun c1 => ?_)
    · have c2 : s.toNat < ns.length := by
        have c3 := of_decide_eq_true c1
        rw [List.length_map] at c3
        omega
      have hx : (ns.map V.int)[s.toNat]? = some (.int ns[s.toNat]) := by
        rw [List.getElem?_map, List.getElem?_eq_getElem c2]
        rfl
      refine ⟨_, rfl, _, rfl, a, _, s, _, rfl, rfl, hs, at_of (by omega) hx, ?_⟩
      generalize ns[s.toNat] = c
      refine ⟨_, rfl, _, rfl, Or.inl ⟨_, rfl, _, _, rfl, rfl, ⟨by decide, by decide +kernel⟩, _, _, rfl, rfl, ⟨by decide, by decide +kernel⟩, _, _, rfl, rfl, big_ne, ?_⟩⟩
      refine ⟨_, rfl, Or.inl ⟨_, rfl, _, _, rfl, rfl, ne_a, _, _, rfl, rfl, Or.inr ⟨by decide, by decide⟩, ?_⟩⟩
      refine ⟨_, rfl, _, _, rfl, rfl, Or.inl ⟨by decide, by decide⟩, _, _, rfl, rfl, ?_⟩
      refine ⟨_, rfl, _, _, rfl, rfl, Or.inr ⟨_, rfl, _, _, rfl, rfl, Or.inl ⟨by decide, by decide⟩, _, _, rfl, rfl, _, _, rfl, rfl, ?_⟩⟩
      refine ⟨_, rfl, _, _, rfl, rfl, ⟨by decide, by decide +kernel⟩, _, _, rfl, rfl, _, _, rfl, ?_⟩
      refine ⟨_, rfl, Or.inl ⟨_, rfl, _, _, rfl, rfl, ne_b, (by show 3 ≤ sizeLine; decide), fun p hp => ?_⟩⟩
      exact fin _ _ H (Same.refl _) (max0 _) p hp (fmod_nn (by decide)) (fmod_lt (by decide))
    · refine ⟨_, rfl, 1, rfl, a, _, rfl, hs, fun p0 hp0 => ⟨p0, cutI ns, rfl, Evl.sq_of ?_, _, rfl, _, _, rfl, rfl, Or.inl ⟨by decide, by decide⟩, _, _, rfl, rfl, _, _, rfl, rfl, ?_⟩⟩
      · rw [upd_same, cutI_eq]
      refine ⟨_, rfl, _, rfl, Or.inl ⟨_, rfl, _, _, rfl, rfl, ⟨by decide, by decide +kernel⟩, _, _, rfl, rfl, ⟨by decide, by decide +kernel⟩, _, _, rfl, rfl, big_ne, ?_⟩⟩
      refine ⟨_, rfl, Or.inl ⟨_, rfl, _, _, rfl, rfl, ne_a, _, _, rfl, rfl, Or.inr ⟨by decide, by decide⟩, ?_⟩⟩
      refine ⟨_, rfl, _, _, rfl, rfl, Or.inl ⟨by decide, by decide⟩, _, _, rfl, rfl, ?_⟩
      refine ⟨_, rfl, _, _, rfl, rfl, Or.inr ⟨_, rfl, _, _, rfl, rfl, Or.inl ⟨by decide, by decide⟩, _, _, rfl, rfl, _, _, rfl, rfl, ?_⟩⟩
      refine ⟨_, rfl, _, _, rfl, rfl, ⟨by decide, by decide +kernel⟩, _, _, rfl, rfl, _, _, rfl, ?_⟩
      refine ⟨_, rfl, Or.inl ⟨_, rfl, _, _, rfl, rfl, ne_b, (by show 3 ≤ sizeLine; decide), fun p hp => ?_⟩⟩
      exact fin _ _ _ (same_new hp0) (max0 _) p hp (fmod_nn (by decide)) (fmod_lt (by decide))
def sp_grab : Sp := fun vs H Q _ => ∃ (b : Addr) (n : Int), vs = [.ref b, .int n] ∧ Bag H b ∧ 0 < n ∧ n.natAbs.log2 < 9000 ∧
  ∀ r H', 0 ≤ r → r < n → But b H H' → Bag H' b → Q (.int r) H'
theorem fdiv_nn {x m : Int} (h0 : 0 ≤ x) (h : 0 < m) : 0 ≤ x.fdiv m := by
  rw [Int.fdiv_eq_ediv_of_nonneg _ (by omega)]
  exact Int.ediv_nonneg h0 (by omega)
theorem mul_ok {x m j : Int} (h : 0 < m) (h2 : m ≤ 2305843009213693951) : CMul (x.fmod m) j := by
  have h3 := fmod_nn (x := x) h
  have h4 := fmod_lt (x := x) h
  exact Or.inl ⟨by omega, by omega⟩
theorem ok__law_grab (T : Txt K mg A) : FnOk P w K mg base CX0 1 A.a__law_grab A.d__law_grab ["_law_bag_here", "_law_total"] sp_grab := by
  refine T.f__law_grab.ok sc__law_grab (fun vs H Q E h => ?_) (fun cdv B out t H vs Q E hr h => ?_)
  · obtain ⟨b, n, rfl, _⟩ := h
    rfl
  · obtain ⟨b, n, rfl, bag, hn, hz, q⟩ := h
    refine ⟨_, (pss_cons (ps_if (pt_cmpR op_gt (pe_ix ix_list (pv 0) pe_int (fun _ _ => rfl)) pe_int (nomark _)) (pss_cons (ps_set (i := 2) sc__law_grab.nd rfl (Or.inl rfl) (pe_op op_modN (pe_callTy call_int1 (by rfl) T.n_int (by decide +kernel) (pa_cons (pe_ix ix_list (pv 0) pe_int (fun _ _ => rfl)) pa_nil)) (pv 1)))
      (pss_cons (ps_asg (pe_op op_fdivA (pe_ix ix_list (pv 0) pe_int (fun _ _ => rfl)) (pv 1)) (pg_sub (pv 0) pe_int set_list))
      (pss_one (ps_ret (pv 2))))) pss_nil)
      (pss_cons (ps_asg (pe_op op_add (pe_ix ix_list (pv 0) pe_int (fun _ _ => rfl)) pe_int) (pg_sub (pv 0) pe_int set_list))
      (pss_cons (ps_set (i := 3) sc__law_grab.nd rfl (Or.inl rfl) (pe_op op_modN (pe_callTy call_int1 (by rfl) T.n_int (by decide +kernel) (pa_cons (pe_op op_add (pe_ix ix_list (pv 0) pe_int (fun _ _ => rfl)) (pe_op op_mul pe_int (pe_ix ix_list (pv 0) pe_int (fun _ _ => rfl)))) pa_nil)) pe_int))
      (pss_cons (ps_set (i := 4) sc__law_grab.nd rfl (Or.inl rfl) (pe_op op_add (pe_op op_mul (pe_op op_modN (pe_callTy call_int1 (by rfl) T.n_int (by decide +kernel) (pa_cons (pe_op op_mul (pv 3) (pv 3)) pa_nil)) pe_int) (pv 3)) (pe_op op_mul pe_int (pe_ix ix_list (pv 0) pe_int (fun _ _ => rfl)))))
      (pss_one (ps_ret (pe_op op_modN (pe_callTy call_int1 (by rfl) T.n_int (by decide +kernel) (pa_cons (pe_op op_fdivN (pe_op op_modN (pe_callTy call_int1 (by rfl) T.n_int (by decide +kernel) (pa_cons (pv 4) pa_nil)) pe_int) pe_int) pa_nil)) (pv 1)))))))), ?_⟩
    obtain ⟨x, y, z, hb, hx, hy, hy2⟩ := bag
    have sq : SqL K H b [.int x, .int y, .int z] := Evl.sq_of hb
    refine ⟨_, rfl, b, _, _, _, rfl, rfl, sq, rfl, _, _, rfl, rfl, _, rfl, ?_⟩
    refine ite2 (fun c1 => ?_) (fun c1 => ?_)
    · refine ⟨_, rfl, b, _, _, _, rfl, rfl, sq, rfl, Or.inl ⟨_, rfl, _, rfl, _, _, rfl, rfl, Int.ne_of_gt hn, ?_⟩⟩
      refine ⟨_, rfl, b, _, _, _, rfl, rfl, sq, rfl, _, rfl, _, _, rfl, rfl, ⟨Int.ne_of_gt hn, hz⟩, ?_⟩
      refine ⟨_, rfl, b, _, _, 0, rfl, rfl, hb, rfl, ?_⟩
      refine ⟨_, rfl, ?_⟩
      exact q _ _ (fmod_nn hn) (fmod_lt hn) But.put ⟨_, y, z, upd_same, fdiv_nn hx hn, hy, hy2⟩
    · refine ⟨_, rfl, b, _, _, _, rfl, rfl, sq, rfl, _, _, rfl, rfl, ?_⟩
      refine ⟨_, rfl, b, _, _, 2, rfl, rfl, hb, rfl, ?_⟩
      have sq2 : SqL K (upd H b (.lst ([V.int x, V.int y, V.int z].set 2 (.int (z + 1))))) b [.int x, .int y, .int (z + 1)] := Evl.sq_of upd_same
      refine ⟨_, rfl, b, _, _, _, rfl, rfl, sq2, rfl, _, rfl, b, _, _, _, rfl, rfl, sq2, rfl, _, _, rfl, rfl, Or.inl ⟨by decide, by decide⟩, _, _, rfl, rfl, Or.inl ⟨_, rfl, _, _, rfl, rfl, ne_b, ?_⟩⟩
      refine ⟨_, rfl, _, rfl, _, _, rfl, rfl, mul_ok (by decide) (by decide), Or.inl ⟨_, rfl, _, _, rfl, rfl, ne_a, _, rfl, _, _, rfl, rfl, mul_ok (by decide) (by decide), ?_⟩⟩
      refine ⟨_, rfl, b, _, _, _, rfl, rfl, sq2, rfl, _, _, rfl, rfl, Or.inl ⟨by decide, by decide⟩, _, _, rfl, rfl, ?_⟩
      refine ⟨_, rfl, Or.inl ⟨_, rfl, _, _, rfl, rfl, by exact (by decide : (2305843009213693921 : Int) ≠ 0), _, _, rfl, rfl, ⟨by decide, by decide⟩, Or.inl ⟨_, rfl, _, rfl, _, _, rfl, rfl, Int.ne_of_gt hn, ?_⟩⟩⟩
      exact q _ _ (fmod_nn hn) (fmod_lt hn) But.put ⟨x, y, z + 1, upd_same, hx, hy, hy2⟩
def sp_one_of (K : PySem.W.Frag) : Sp := fun vs H Q _ => ∃ (b p : Addr) (xs : List V), vs = [.ref b, .ref p] ∧ Bag H b ∧ p ≠ b ∧ SqL K H p xs ∧ xs ≠ [] ∧ xs.length < 1000 ∧
  ∀ v H', v ∈ xs → But b H H' → Bag H' b → Q v H'
theorem log_small {n : Nat} (h : n < 1000) : (n : Int).natAbs.log2 < 9000 := by
  have h1 := PySem.Flt.log2_lt_of (by omega : 0 < 10) (show (n : Int).natAbs < 2 ^ 10 by omega)
  omega
theorem ok__law_one_of (T : Txt K mg A) : FnOk P w K mg base CX0 2 A.a__law_one_of A.d__law_one_of ["_law_bag_here", "_law_items"] (sp_one_of K) := by
  have G__law_grab : FnOk P w K mg base CX0 1 A.a__law_grab A.d__law_grab ["_law_bag_here", "_law_total"] sp_grab := ok__law_grab T
  refine T.f__law_one_of.ok sc__law_one_of (fun vs H Q E h => ?_) (fun cdv B out t H vs Q E hr h => ?_)
  · obtain ⟨b, p, xs, rfl, _⟩ := h
    rfl
  · obtain ⟨b, p, xs, rfl, bag, hp, hs, hne, hz, q⟩ := h
    refine ⟨_, (pss_one (ps_ret (pe_ix ix_list (pv 1) (pe_call G__law_grab (hr.mono (by decide)) (by rfl) T.g__law_grab T.f__law_grab.kp (b__law_grab T) .nil pass0 (pa_cons (pv 0) (pa_cons (pe_callB call_len_seq (by rfl) T.n_len (by decide +kernel) (pa_cons (pv 1) pa_nil)) pa_nil))) (fun _ _ => rfl)))), ?_⟩
    have hl : 0 < xs.length := List.length_pos_iff.mpr hne
    refine ⟨_, rfl, _, rfl, _, rfl, p, xs, rfl, Or.inl hs, b, _, rfl, bag, by omega, log_small hz, fun r H' h0 h1 e bag' => ?_⟩
    have hk : r.toNat < xs.length := by omega
    exact ⟨p, xs, r, xs[r.toNat], rfl, rfl, e.l hp hs, at_of (by omega) (List.getElem?_eq_getElem hk), q _ _ (List.getElem_mem hk) e bag'⟩
end
end K06

set_option maxHeartbeats 1000000
namespace My
open PySem PySem.Spec PyProof.Rows L2 ZN
theorem But.mt {K : PySem.W.Frag} {b : Addr} {H H' : Hp} {v : V} {M : List (List Int)} (e : But b H H') (bag : Bag H b) (h : MtAt K H true v M) : MtAt K H' true v M := by
  obtain ⟨a, ls, rfl, hs, hr⟩ := h
  exact ⟨a, ls, rfl, e.t bag hs, hr.1, fun j r hj => let ⟨t, h1, h2⟩ := hr.2 j r hj; ⟨t, h1, e.t bag h2⟩⟩
theorem But.rw {K : PySem.W.Frag} {b : Addr} {H H' : Hp} {v : V} {r : List Int} (e : But b H H') (bag : Bag H b) (h : RwAt K H true v r) : RwAt K H' true v r := by
  obtain ⟨a, rfl, hs⟩ := h
  exact ⟨a, rfl, e.t bag hs⟩
theorem log_of {x : Int} (h : x.natAbs < 2 ^ 8000) : x.natAbs.log2 < 9000 := by
  have h1 := PySem.Flt.log2_lt_of (by omega : 0 < 8000) h
  omega
end My
namespace K06
open PySem PySem.Spec PyProof.Rows L2 My ZN
section
variable {P : Program} {w : World} {K : PySem.W.Frag} {mg : Str → Option Value} {base : Heap} {A : Adr}
def sp_size : Sp := fun vs H Q _ => ∃ (b : Addr), vs = [.ref b] ∧ Bag H b ∧ ∀ (n : Nat) H', N4 n → But b H H' → Bag H' b → Q (.int (n : Nat)) H'
theorem ok__law_size (T : Txt K mg A) : FnOk P w K mg base CX0 3 A.a__law_size A.d__law_size ["_law_bag_here"] sp_size := by
  have G__law_one_of : FnOk P w K mg base CX0 2 A.a__law_one_of A.d__law_one_of ["_law_bag_here", "_law_items"] (sp_one_of K) := ok__law_one_of T
  refine T.f__law_size.ok sc__law_size (fun vs H Q E h => ?_) (fun cdv B out t H vs Q E hr h => ?_)
  · obtain ⟨b, rfl, _⟩ := h
    rfl
  · obtain ⟨b, rfl, bag, q⟩ := h
    refine ⟨_, (pss_one (ps_ret (pe_call G__law_one_of (hr.mono (by decide)) (by rfl) T.g__law_one_of T.f__law_one_of.kp (b__law_one_of T) .nil pass0 (pa_cons (pv 0) (pa_cons (pe_lst (pa_cons pe_int (pa_cons pe_int (pa_cons pe_int (pa_cons pe_int (pa_cons pe_int (pa_cons pe_int (pa_cons pe_int pa_nil)))))))) pa_nil))))), ?_⟩
    refine ⟨_, rfl, by show 7 ≤ sizeLine; decide, fun p hp => ⟨b, p, _, rfl, bag.upd hp, bag.ne hp, .inl (.inl upd_same), by simp, by simp, fun v H' hv e bag' => ?_⟩⟩
    have e' : But b H H' := (But.of (same_new hp)).trans e
    simp only [List.mem_cons, List.mem_nil_iff, or_false] at hv
    have q2 := q 2 H' (.inl rfl) e' bag'
    have q3 := q 3 H' (.inr (.inl rfl)) e' bag'
    have q4 := q 4 H' (.inr (.inr rfl)) e' bag'
    rcases hv with rfl | rfl | rfl | rfl | rfl | rfl | rfl <;> assumption
def sp_number : Sp := fun vs H Q _ => ∃ (b : Addr) (s : Nat), vs = [.ref b, .int (s : Nat)] ∧ Bag H b ∧ s < 10 ^ 30 ∧ ∀ (x : Int) H', x.natAbs ≤ s → But b H H' → Bag H' b → Q (.int x) H'
theorem ok__law_number (T : Txt K mg A) : FnOk P w K mg base CX0 2 A.a__law_number A.d__law_number ["_law_bag_here", "_law_spread"] sp_number := by
  have G__law_grab : FnOk P w K mg base CX0 1 A.a__law_grab A.d__law_grab ["_law_bag_here", "_law_total"] sp_grab := ok__law_grab T
  refine T.f__law_number.ok sc__law_number (fun vs H Q E h => ?_) (fun cdv B out t H vs Q E hr h => ?_)
  · obtain ⟨b, s, rfl, _⟩ := h
    rfl
  · obtain ⟨b, s, rfl, bag, hs, q⟩ := h
    refine ⟨_, (pss_one (ps_ret (pe_op op_sub (pe_call G__law_grab (hr.mono (by decide)) (by rfl) T.g__law_grab T.f__law_grab.kp (b__law_grab T) .nil pass0 (pa_cons (pv 0) (pa_cons (pe_op op_add (pe_op op_mul pe_int (pv 1)) pe_int) pa_nil))) (pv 1)))), ?_⟩
    refine ⟨_, rfl, _, rfl, _, _, rfl, rfl, Or.inl ⟨by decide, by decide⟩, _, _, rfl, rfl, b, _, rfl, bag, by omega, log_of ?_, fun r H' h0 h1 e bag' => ?_⟩
    · refine Nat.lt_trans (m := 2 ^ 200) ?_ (Nat.pow_lt_pow_right (by decide) (by decide))
      omega
    · exact ⟨_, rfl, _, _, rfl, rfl, q _ H' (by omega) e bag'⟩
def sp_some_row (K : PySem.W.Frag) : Sp := fun vs H Q _ => ∃ (b : Addr) (n s : Nat), vs = [.ref b, .int (n : Nat), .int (s : Nat)] ∧ Bag H b ∧ N4 n ∧ 1 ≤ s ∧ s < 10 ^ 30 ∧ ∀ v r H', RwAt K H' true v r → r.length = n → Rb s r → But b H H' → Bag H' b → Q v H'
theorem ok__law_some_row (T : Txt K mg A) : FnOk P w K mg base CX0 3 A.a__law_some_row A.d__law_some_row ["_law_bag_here", "_law_size_here", "_law_spread"] (sp_some_row K) := by
  have G__law_number : FnOk P w K mg base CX0 2 A.a__law_number A.d__law_number ["_law_bag_here", "_law_spread"] sp_number := ok__law_number T
  refine T.f__law_some_row.ok sc__law_some_row (fun vs H Q E h => ?_) (fun cdv B out t H vs Q E hr h => ?_)
  · obtain ⟨b, n, s, rfl, _⟩ := h
    rfl
  · obtain ⟨b, n, s, rfl, bag, h4, hs1, hs, q⟩ := h
    refine ⟨_, (pss_cons (ps_set (i := 3) sc__law_some_row.nd rfl (Or.inl rfl) (pe_callTy call_tuple_of (by rfl) T.n_tuple (by decide +kernel) (pa_cons (pe_lc (own := [("_law_turn", 4)]) (g := (gName 4)) (tt := tYes)  rfl sc__law_some_row.nd (pi_range1 (by rfl) T.n_range (pa_cons (pv 1) pa_nil)) (blkOk_by (own := [("_law_turn", 4)]) (N := names__law_some_row) (sc := defScope s__law_some_row) (by decide +kernel)) (fun _ _ _ _ _ => (pg_name (i := 4) sc__law_some_row.nd rfl (Or.inl rfl))) (fun _ _ _ _ _ => pts_nil) (fun _ _ _ _ _ => by apply My.pe_eq; (case h => exact (pe_call G__law_number (hr.mono (by decide)) (by rfl) T.g__law_number T.f__law_number.kp (b__law_number T) .nil pass0 (pa_cons (pv 0) (pa_cons (pv 2) pa_nil)))); all_goals (first | exact rfl | (dsimp only [L2.Cx.blk, L2.Cx.nox, L2.cxOf]; done) | (dsimp only [L2.Cx.blk, L2.Cx.nox, L2.cxOf]; exact rfl)))) pa_nil)))
      (pss_one (ps_ret (pe_ifExp (PW.pt (pw_or (pt_cmpR op_gt (pe_callB (My.cr_maxT rfl hr.units) (by rfl) T.n_max (by decide +kernel) (pa_cons (pv 3) pa_nil)) pe_int (nomark _)) (pw_or1 (pt_cmpR op_lt (pe_callB (My.cr_minT rfl hr.units) (by rfl) T.n_min (by decide +kernel) (pa_cons (pv 3) pa_nil)) pe_int (nomark _))))) (pv 3) (pe_op op_catA (pe_tup (pa_cons pe_int pa_nil)) (pe_op op_repC (pe_tup (pa_cons pe_int pa_nil)) (pe_op op_sub (pv 1) pe_int))))))), ?_⟩
    have hn2 := h4.two
    have hn4 := h4.four
    dsimp only [gName, tSeq, tAsg, tCB, tCons, tNil]
    refine comp_rb (b := b) (fun m => m = (n : Int)) (fun y => ∃ x : Int, y = .int x ∧ x.natAbs ≤ s) (fun x => rfl) ?_ ?_ (fun Q' h0 => ⟨_, rfl, h0 _ H (by omega) (by omega) rfl (But.refl _ _) bag⟩)
    · intro x H1 e1 b1 Q' hq
      exact ⟨_, rfl, _, rfl, b, s, rfl, b1, hs, fun x H' hx e bag' => hq _ H' ⟨x, rfl, hx⟩ e bag'⟩
    · intro D ys H1 e1 b1 hDb hD hlen hok hL
      obtain ⟨ns, rfl, hns⟩ := oks_ints ys hok
      have hl : ns.length = n := by
        rw [List.length_map] at hlen; omega
      refine ⟨D, _, rfl, .inl ⟨.inl (.inl hL), fun l hl2 => ?_⟩⟩
      have e2 : But b H (upd H1 l (.tup (ns.map V.int))) := e1.trans (But.of (same_new hl2))
      have b2 : Bag (upd H1 l (.tup (ns.map V.int))) b := b1.upd hl2
      have hr2 : RwAt K (upd H1 l (.tup (ns.map V.int))) true (.ref l) ns := ⟨l, rfl, .inl (.inl upd_same)⟩
      generalize upd H1 l (.tup (ns.map V.int)) = H2 at *
      obtain ⟨x, xs, rfl⟩ : ∃ x xs, ns = x :: xs := by
        cases ns with
        | nil => simp at hl; omega
        | cons x xs => exact ⟨x, xs, rfl⟩
      have hs2 : SqT K H2 l (irow (x :: xs)) := by
        obtain ⟨l', e, h⟩ := hr2
        cases e
        exact h
      have fin1 : Q (.ref l) H2 := q _ (x :: xs) H2 ⟨l, rfl, hs2⟩ hl hns e2 b2
      have fin2 : tOp (rCatA K) (tTup (tCons (tC (.int 1)) tNil)) (tOp (rRepC K) (tTup (tCons (tC (.int 0)) tNil)) (tOp (rI0 fun i j => .int (i - j)) (tVar 1) (tC (.int 1)))) [some (.ref b), some (.int (n : Nat)), some (.int (s : Nat)), some (.ref l), none] H2 Q := by
        refine ⟨by show 1 ≤ sizeLine; decide, fun p hp => ?_⟩
        refine ⟨by show 1 ≤ sizeLine; decide, fun p2 hp2 => ⟨_, rfl, _, _, rfl, rfl, ?_⟩⟩
        have e3 := (same_new (o := .tup [.int 1]) hp).trans (same_new (o := .tup [.int 0]) hp2)
        have u1 : (upd (upd H2 p (.tup [.int 1])) p2 (.tup [.int 0])) p = some (.tup [.int 1]) := same_new hp2 _ _ upd_same
        have ek : ((n : Int) - 1) = ((n - 1 : Nat) : Int) := by omega
        show rRepC K (.ref p2) (.int ((n : Int) - 1)) _ _
        rw [ek]
        refine rep_any (by omega) (.inl (.inl upd_same)) fun p3 H4 e4 h3 => ?_
        refine ⟨p, p3, [.int 1], _, rfl, rfl, same_t e4 (.inl (.inl u1)), h3, by rw [List.length_replicate, sizeLine_eq]; show 1 + (n - 1) ≤ _; omega, fun z => by simp at z, fun _ z => by (have := congrArg List.length z; simp at this; omega), fun _ _ p5 hp5 => ?_⟩
        have e5 := e3.trans (e4.trans (same_new (o := .tup ([.int 1] ++ List.replicate (n - 1) (.int 0))) hp5))
        refine q _ (1 :: List.replicate (n - 1) 0) _ ⟨p5, rfl, .inl (.inl ?_)⟩ (by simp; omega) ?_ (e2.trans (But.of e5)) (b2.same e5)
        · rw [upd_same]
          simp [irow]
        · intro y hy
          rcases List.mem_cons.mp hy with rfl | hy
          · exact hs1
          · rw [(List.mem_replicate.mp hy).2]; exact Nat.zero_le _
      refine ⟨_, rfl, _, x, xs, rfl, hs2, fun m => ⟨_, _, rfl, rfl, _, rfl, ite2 (fun _ => iteT ⟨_, rfl, fin1⟩) fun _ => ?_⟩⟩
      refine ⟨_, rfl, _, x, xs, rfl, hs2, fun m2 => ⟨_, _, rfl, rfl, _, rfl, ite2 (fun _ => ⟨_, rfl, fin1⟩) fun _ => fin2⟩⟩
end
end K06

set_option maxHeartbeats 1000000
namespace K06
open PySem PySem.Spec PyProof.Rows L2 My ZN
section
variable {P : Program} {w : World} {K : PySem.W.Frag} {mg : Str → Option Value} {base : Heap} {A : Adr}
def sp_row_led (K : PySem.W.Frag) : Sp := fun vs H Q _ => ∃ v u M r, vs = [v, u] ∧ MtAt K H true v M ∧ RwAt K H true u r ∧ AllW M ∧ (∀ x ∈ r, Wd x) ∧ M.length < 100000 ∧ (∀ l ∈ M, l.length < 100000) ∧
  ∀ v' H', Same H H' → RwAt K H' true v' (imgL M r) → Q v' H'
theorem ok__law_row_led (T : Txt K mg A) : FnOk P w K mg base CX0 1 A.a__law_row_led A.d__law_row_led ["_law_matrix_here", "_law_row"] (sp_row_led K) := by
  refine T.f__law_row_led.ok sc__law_row_led (fun vs H Q E h => ?_) (fun cdv B out t H vs Q E hr h => ?_)
  · obtain ⟨v, u, M, r, rfl, _⟩ := h
    rfl
  · obtain ⟨v, u, M, r, rfl, hM, ⟨b, rfl, hb⟩, wM, wr, zM, zr, q⟩ := h
    refine ⟨_, (pss_one (ps_ret (pe_callTy call_tuple_of (by rfl) T.n_tuple (by decide +kernel) (pa_cons (pe_lc (own := [("_law_line", 4)]) (g := (gName 4)) (tt := tYes)  rfl sc__law_row_led.nd (pi_tup (pv 0)) (blkOk_by (own := [("_law_line", 4)]) (N := names__law_row_led) (sc := defScope s__law_row_led) (by decide +kernel)) (fun _ _ _ _ _ => (pg_name (i := 4) sc__law_row_led.nd rfl (Or.inl rfl))) (fun _ _ _ _ _ => pts_nil) (fun _ _ _ _ _ => by apply My.pe_eq; (case h => exact (pe_callB (cr_sum rfl) (by rfl) T.n_sum (by decide +kernel) (pa_cons (by exact (pe_lc (own := [("_law_number_here", 2), ("_law_there", 3)]) (g := (gTup K 2 (gCons (gName 2) (gCons (gName 3) gNil)))) (tt := tYes)  rfl sc__law_row_led.nd (ZN.pi_zip2 (by rfl) T.n_zip (pa_cons (pv 4) (pa_cons (pv 1) pa_nil))) (by (exact L2.blkOk_by (by kernel_rfl))) (fun _ _ _ _ _ => (pg_tup (by rfl) (pgs_cons (pg_name (i := 2) sc__law_row_led.nd rfl (Or.inl rfl)) (pgs_cons (pg_name (i := 3) sc__law_row_led.nd rfl (Or.inl rfl)) pgs_nil)))) (fun _ _ _ _ _ => pts_nil) (fun _ _ _ _ _ => by apply My.pe_eq; (case h => exact (pe_op op_mulW (pv 2) (pv 3))); all_goals (first | exact rfl | (dsimp only [L2.Cx.blk, L2.Cx.nox, L2.cxOf]; done) | (dsimp only [L2.Cx.blk, L2.Cx.nox, L2.cxOf]; exact rfl))))) pa_nil))); all_goals (first | exact rfl | (dsimp only [L2.Cx.blk, L2.Cx.nox, L2.cxOf]; done) | (dsimp only [L2.Cx.blk, L2.Cx.nox, L2.cxOf]; exact rfl)))) pa_nil)))), ?_⟩
    obtain ⟨a, ls, rfl, hsA, hlA, hrA⟩ := hM.sq
    dsimp only [tRet, tCB, tCons, tNil]
    refine comp_one (K := K) (walk_tup (a := a) (xs := ls)) (fun k => .int (dotL (M.getD k []) r)) (by omega) (fun H' e => same_t e hsA) (fun R r => ⟨_, rfl, a, rfl, ⟨_, hsA⟩, r⟩) (fun x => rfl) ?_ ?_
    · intro m x D acc H2 A1 hk e2 hD hL hx hA
      have hkM : m < M.length := by omega
      obtain ⟨tr, htr, hst⟩ := hrA m M[m] (List.getElem?_eq_getElem hkM)
      obtain rfl : x = .ref tr := by rw [hx] at htr; exact Option.some.inj htr
      have eM : M.getD m [] = M[m] := by simp [hkM]
      rw [eM] at hA
      exact sum_zip (k1 := true) (k2 := true) (fun R r => ⟨_, rfl, _, rfl, true, true, tr, b, _, _, rfl, same_t e2 hst, same_t e2 hb, r⟩) (same_t e2 hst) (same_t e2 hb) (wM _ (List.getElem_mem hkM)) wr (zr _ (List.getElem_mem hkM))
        (fun x y => rfl) (fun x y => rfl) (fun x y => rfl) fun H4 e4 => hA _ H4 e4 fun u => .int _
    · intro D ys H4 e4 hD hL hj
      rw [range_getD' (fun l => PyData.int (dotL l r)) [] M ls.length hlA] at hj
      have hj2 : JdAll K H4 ys ((imgL M r).map PyData.int) := by simpa [imgL, List.map_map, Function.comp_def] using hj
      rw [jd_ints_inv _ _ hj2] at hL
      exact ⟨D, _, rfl, .inl ⟨.inl (.inl hL), fun l hl => q _ _ (e4.trans (same_new hl)) ⟨l, rfl, .inl (.inl upd_same)⟩⟩⟩
def sp_pairing (K : PySem.W.Frag) : Sp := fun vs H Q _ => ∃ v u x M r s, vs = [v, u, x] ∧ MtAt K H true v M ∧ RwAt K H true u r ∧ RwAt K H true x s ∧ r.length = M.length ∧ AllW M ∧ (∀ x ∈ r, Wd x) ∧ (∀ x ∈ s, Wd x) ∧ (∀ x ∈ imgL M s, Wd x) ∧ M.length < 100000 ∧ (∀ l ∈ M, l.length < 100000) ∧
  ∀ H', Same H H' → Q (.int (dotL r (imgL M s))) H'
theorem ok__law_pairing (T : Txt K mg A) : FnOk P w K mg base CX0 1 A.a__law_pairing A.d__law_pairing ["_law_table", "_law_one", "_law_other"] (sp_pairing K) := by
  refine T.f__law_pairing.ok sc__law_pairing (fun vs H Q E h => ?_) (fun cdv B out t H vs Q E hr h => ?_)
  · obtain ⟨v, u, x, M, r, s, rfl, _⟩ := h
    rfl
  · obtain ⟨v, u, x, M, r, s, rfl, hM, ⟨b, rfl, hb⟩, ⟨c, rfl, hc⟩, hl, wM, wr, ws, wi, zM, zr, q⟩ := h
    refine ⟨_, (pss_cons (ps_set (i := 3) sc__law_pairing.nd rfl (Or.inl rfl) pe_int)
      (pss_cons (ps_for PassesOwn.never rfl (ZN.pi_zip2 (by rfl) T.n_zip (pa_cons (pv 1) (pa_cons (pv 0) pa_nil))) (pg_tup (by rfl) (pgs_cons (pg_name (i := 4) sc__law_pairing.nd rfl (Or.inl rfl)) (pgs_cons (pg_name (i := 5) sc__law_pairing.nd rfl (Or.inl rfl)) pgs_nil))) (pss_one (ps_set (i := 3) sc__law_pairing.nd rfl (Or.inl rfl) (pe_op op_add (pv 3) (pe_op op_mulW (pv 4) (pe_callB (cr_sum rfl) (by rfl) T.n_sum (by decide +kernel) (pa_cons (pe_lc (own := [("_law_number_here", 6), ("_law_there", 7)]) (g := (gTup K 2 (gCons (gName 6) (gCons (gName 7) gNil)))) (tt := tYes)  rfl sc__law_pairing.nd (ZN.pi_zip2 (by rfl) T.n_zip (pa_cons (pv 5) (pa_cons (pv 2) pa_nil))) (blkOk_by (own := [("_law_number_here", 6), ("_law_there", 7)]) (N := names__law_pairing) (sc := defScope s__law_pairing) (by decide +kernel)) (fun _ _ _ _ _ => (pg_tup (by rfl) (pgs_cons (pg_name (i := 6) sc__law_pairing.nd rfl (Or.inl rfl)) (pgs_cons (pg_name (i := 7) sc__law_pairing.nd rfl (Or.inl rfl)) pgs_nil)))) (fun _ _ _ _ _ => pts_nil) (fun _ _ _ _ _ => by apply My.pe_eq; (case h => exact (pe_op op_mulW (pv 6) (pv 7))); all_goals (first | exact rfl | (dsimp only [L2.Cx.blk, L2.Cx.nox, L2.cxOf]; done) | (dsimp only [L2.Cx.blk, L2.Cx.nox, L2.cxOf]; exact rfl)))) pa_nil)))))))
      (pss_one (ps_ret (pv 3))))), ?_⟩
    obtain ⟨a, ls, rfl, hsA, hlA, hrA⟩ := hM.sq
    have hirl : (irow r).length = r.length := by simp [irow]
    refine ⟨_, rfl, _, rfl, true, true, b, a, _, _, rfl, hb, hsA, for_it (walk_zip2 (K := K) (k1 := true) (k2 := true) (a := b) (b := a) (xs := irow r) (ys := ls) (n := r.length) (by omega)) (fun i σ H' => i ≤ r.length ∧ Same H H' ∧ ∃ x4 x5 : Option V, σ = [some (.ref a), some (.ref b), some (.ref c), some (.int (dotL (r.take i) ((imgL M s).take i))), x4, x5, none, none])
      ⟨Nat.zero_le _, Same.refl _, none, none, by simp [dotL]; rfl⟩ (fun i σ H' _ h => ⟨same_k h.2.1 hb, same_k h.2.1 hsA⟩) ?_ ?_⟩
    · rintro i x σ H1 H2 hi ⟨_, e1, x4, x5, rfl⟩ ⟨Tt, x1, y1, rfl, hT, rfl, hx, hy⟩
      obtain ⟨_, rfl⟩ := irow_get' hx
      have hiM : i < M.length := by omega
      obtain ⟨tr, htr, hst⟩ := hrA i M[i] (List.getElem?_eq_getElem hiM)
      have hy' : ls[i]? = some y1 := hy
      obtain rfl : y1 = .ref tr := by rw [hy'] at htr; exact Option.some.inj htr
      have e2 : Same H1 (upd H1 Tt (.tup [.int (r.getD i 0), .ref tr])) := same_new hT
      refine ⟨Tt, _, rfl, .inl (.inl upd_same), rfl, _, _, rfl, _, _, rfl, rfl, ?_⟩
      generalize upd H1 Tt (.tup [.int (r.getD i 0), .ref tr]) = H3 at e2 ⊢
      have e3 := e1.trans e2
      have himg : (imgL M s).length = M.length := img_length
      have ei : dotL M[i] s = (imgL M s).getD i 0 := by simp [imgL, hiM]
      refine ⟨_, rfl, _, rfl, sum_zip (K := K) (k1 := true) (k2 := true) (fun R r => ⟨_, rfl, _, rfl, true, true, tr, c, _, _, rfl, same_t e3 hst, same_t e3 hc, r⟩) (same_t e3 hst) (same_t e3 hc) (wM _ (List.getElem_mem hiM)) ws (zr _ (List.getElem_mem hiM))
        (fun x y => rfl) (fun x y => rfl) (fun x y => rfl) fun H4 e4 => ⟨_, _, rfl, rfl, Wd.mul (wr _ (mem_getD hi)) (by rw [ei]; exact wi _ (mem_getD (by omega))), _, _, rfl, rfl, hi, e3.trans e4, some (.int (r.getD i 0)), some (.ref tr), ?_⟩⟩
      have et : dotL (r.take i) ((imgL M s).take i) + r.getD i 0 * dotL M[i] s = dotL (r.take (i + 1)) ((imgL M s).take (i + 1)) := by
        have e5 : r.take (i + 1) = r.take i ++ [r.getD i 0] := by rw [List.take_succ]; simp [hi]
        have e6 : (imgL M s).take (i + 1) = (imgL M s).take i ++ [(imgL M s).getD i 0] := by rw [List.take_succ]; simp [himg, hiM]
        rw [e5, e6, dotL_snoc (by simp; omega), ei]
      rw [← et]
      rfl
    · rintro σ H1 ⟨_, e1, x4, x5, rfl⟩
      have := q _ e1
      rw [List.take_length, show r.length = (imgL M s).length by rw [img_length, hl], List.take_length]
      exact ⟨_, rfl, this⟩
def sp_value (K : PySem.W.Frag) : Sp := fun vs H Q _ => ∃ v u n S r, vs = [v, u] ∧ MtAt K H true v S ∧ RwAt K H true u r ∧ N4 n ∧ Tab n S ∧ Rw n r ∧ ∀ H', Same H H' → Q (.int (valL S r)) H'
theorem dot_comm : ∀ x y : List Int, dotL x y = dotL y x
  | [], [] => rfl
  | [], _ :: _ => rfl
  | _ :: _, [] => rfl
  | a :: x, b :: y => by
    have := dot_comm x y
    simp only [dotL, List.zipWith_cons_cons, List.sum_cons] at this ⊢
    rw [this, Int.mul_comm]
theorem ok__law_value (T : Txt K mg A) : FnOk P w K mg base CX0 2 A.a__law_value A.d__law_value ["_law_table", "_law_row"] (sp_value K) := by
  have G__law_pairing : FnOk P w K mg base CX0 1 A.a__law_pairing A.d__law_pairing ["_law_table", "_law_one", "_law_other"] (sp_pairing K) := ok__law_pairing T
  refine T.f__law_value.ok sc__law_value (fun vs H Q E h => ?_) (fun cdv B out t H vs Q E hr h => ?_)
  · obtain ⟨v, u, n, S, r, rfl, _⟩ := h
    rfl
  · obtain ⟨v, u, n, S, r, rfl, hS, hr1, h4, s, b, q⟩ := h
    refine ⟨_, (pss_one (ps_ret (pe_call G__law_pairing (hr.mono (by decide)) (by rfl) T.g__law_pairing T.f__law_pairing.kp (b__law_pairing T) .nil pass0 (pa_cons (pv 0) (pa_cons (pv 1) (pa_cons (pv 1) pa_nil)))))), ?_⟩
    exact ⟨_, rfl, _, rfl, _, rfl, v, u, u, S, r, r, rfl, hS, hr1, hr1, b.len.trans s.sq.len.symm, tt_wd s.ab, tt_wdr b.ab, tt_wdr b.ab, img_wd h4.four s.sq b.len s.ab b.ab, s.sq.lt, s.sq.rlt, fun H' e => by rw [dot_comm]; exact q H' e⟩
def sp_law_turned (K : PySem.W.Frag) : Sp := fun vs H Q _ => ∃ v M n, vs = [v] ∧ MtAt K H true v M ∧ Sq n M ∧ ∀ v' H', Same H H' → MtAt K H' true v' (trM n M) → Q v' H'
theorem ok__law_turned (T : Txt K mg A) : FnOk P w K mg base CX0 1 A.a__law_turned A.d__law_turned ["_law_rows"] (sp_law_turned K) := by
  refine T.f__law_turned.ok sc__law_turned (fun vs H Q E h => ?_) (fun cdv B out t H vs Q E hr h => ?_)
  · obtain ⟨v, M, n, rfl, _⟩ := h
    rfl
  · obtain ⟨v, M, n, rfl, hM, sM, q⟩ := h
    refine ⟨_, (pss_one (ps_ret (pe_callTy call_tuple_of (by rfl) T.n_tuple (by decide +kernel) (pa_cons (pe_lc (own := [("_law_at", 2)]) (g := (gName 2)) (tt := tYes)  rfl sc__law_turned.nd (pi_range1 (by rfl) T.n_range (pa_cons (pe_callB call_len_seq (by rfl) T.n_len (by decide +kernel) (pa_cons (pe_ix ix_seq (pv 0) pe_int (fun _ _ => rfl)) pa_nil)) pa_nil)) (blkOk_by (own := [("_law_at", 2)]) (N := names__law_turned) (sc := defScope s__law_turned) (by decide +kernel)) (fun _ _ _ _ _ => (pg_name (i := 2) sc__law_turned.nd rfl (Or.inr rfl))) (fun _ _ _ _ _ => pts_nil) (fun _ _ _ _ _ => by apply My.pe_eq; (case h => exact (pe_callTy call_tuple_of (by rfl) T.n_tuple (by decide +kernel) (pa_cons (by exact (pe_lc (own := [("_law_row", 1)]) (g := (gName 1)) (tt := tYes)  rfl sc__law_turned.nd (pi_tup (pv 0)) (by (exact L2.blkOk_by (by kernel_rfl))) (fun _ _ _ _ _ => (pg_name (i := 1) sc__law_turned.nd rfl (Or.inl rfl))) (fun _ _ _ _ _ => pts_nil) (fun _ _ _ _ _ => by apply My.pe_eq; (case h => exact (pe_ix ix_seq (pv 1) (pv 2) (fun _ _ => rfl))); all_goals (first | exact rfl | (dsimp only [L2.Cx.blk, L2.Cx.nox, L2.cxOf]; done) | (dsimp only [L2.Cx.blk, L2.Cx.nox, L2.cxOf]; exact rfl))))) pa_nil))); all_goals (first | exact rfl | (dsimp only [L2.Cx.blk, L2.Cx.nox, L2.cxOf]; done) | (dsimp only [L2.Cx.blk, L2.Cx.nox, L2.cxOf]; exact rfl)))) pa_nil)))), ?_⟩
    obtain ⟨a, ls, rfl, hsA, hlA, hrA⟩ := hM.sq
    have hn := sM.len
    have hpos := sM.pos
    have hfew := sM.few
    have h0 : 0 < M.length := by omega
    obtain ⟨t0, ht0, hst0⟩ := hrA 0 M[0] (List.getElem?_eq_getElem h0)
    have hl0 : (irow M[0]).length = n := by simp only [irow, List.length_map]; exact sM.row _ (List.getElem_mem h0)
    dsimp only [tRet, tCB, tCons, tNil]
    rw [tLc_eq]
    refine ⟨_, rfl, ix_k (k := true) (i := 0) hsA ht0 ⟨t0, _, rfl, .inr hst0, _, rfl, by omega, by omega, ?_⟩⟩
    rw [hl0, Int.toNat_natCast]
    unfold LcAt
    refine comp_rng (K := K) (walk_range (lo := 0) (n := n)) (fun c => rowD (M.map fun r => r.getD c 0)) hfew (fun _ _ => trivial) (fun R q0 => q0) (fun x => rfl) ?_ ?_
    · intro c D acc H1 A1 hc e1 hD hL hA
      dsimp only [tCB, tCons, tNil]
      refine comp_one (K := K) (walk_tup (a := a) (xs := ls)) (fun k => .int ((M.getD k []).getD c 0)) (by omega) (fun H' e => same_t (e1.trans e) hsA) (fun R r => ⟨_, rfl, a, rfl, ⟨_, same_t e1 hsA⟩, r⟩) (fun x => rfl) ?_ ?_
      · intro k x D2 acc2 H2 A2 hk e2 hD2 hL2 hx hA2
        have hkM : k < M.length := by omega
        obtain ⟨tr, htr, hst⟩ := hrA k M[k] (List.getElem?_eq_getElem hkM)
        obtain rfl : x = .ref tr := by rw [hx] at htr; exact Option.some.inj htr
        have eM : M.getD k [] = M[k] := by simp [hkM]
        rw [eM] at hA2
        have hw : c < M[k].length := by rw [sM.row _ (List.getElem_mem hkM)]; exact hc
        have ec : ((0 : Int) + (c : Int)) = (c : Int) := by omega
        rw [ec]
        exact ⟨_, rfl, _, rfl, ix_k (k := true) (same_t (e1.trans e2) hst) (irow_get hw) (hA2 _ _ (Same.refl _) fun u => .int _)⟩
      · intro D2 ys H2 e2 hD2 hL2 hj
        rw [range_getD' (fun l : List Int => PyData.int (l.getD c 0)) [] M ls.length hlA] at hj
        have hj2 : JdAll K H2 ys ((M.map fun r => r.getD c 0).map PyData.int) := by simpa [List.map_map, Function.comp_def] using hj
        rw [jd_ints_inv _ _ hj2] at hL2
        exact ⟨D2, _, rfl, .inl ⟨.inl (.inl hL2), fun l hl => hA _ _ (e2.trans (same_new hl)) fun u => row_new (e2 _ _ hL) hl⟩⟩
    · intro D ys H1 e1 hD hL hj
      have hr2 : RowsAt K H1 ys ((trM n M).map irow) := jd_rows (by simpa [trM, List.map_map, Function.comp_def] using hj)
      exact ⟨D, _, rfl, .inl ⟨.inl (.inl hL), fun l hl => q _ _ (e1.trans (same_new hl)) ⟨l, ys, rfl, .inl (.inl upd_same), rows_mono (same_new hl) hr2⟩⟩⟩
end
end K06

set_option maxHeartbeats 1000000
namespace K06
open PySem PySem.Spec PyProof.Rows L2 My ZN
section
variable {P : Program} {w : World} {K : PySem.W.Frag} {mg : Str → Option Value} {base : Heap} {A : Adr}
def sp_product (K : PySem.W.Frag) : Sp := fun vs H Q _ => ∃ v u n M N, vs = [v, u] ∧ MtAt K H true v M ∧ MtAt K H true u N ∧ Sq n M ∧ Sq n N ∧ AllW M ∧ AllW N ∧ ∀ v' H', Same H H' → MtAt K H' true v' (mulM n M N) → Q v' H'
theorem ok__law_product (T : Txt K mg A) : FnOk P w K mg base CX0 2 A.a__law_product A.d__law_product ["_law_one", "_law_other"] (sp_product K) := by
  have G__law_turned : FnOk P w K mg base CX0 1 A.a__law_turned A.d__law_turned ["_law_rows"] (sp_law_turned K) := ok__law_turned T
  have G__law_row_led : FnOk P w K mg base CX0 1 A.a__law_row_led A.d__law_row_led ["_law_matrix_here", "_law_row"] (sp_row_led K) := ok__law_row_led T
  refine T.f__law_product.ok sc__law_product (fun vs H Q E h => ?_) (fun cdv B out t H vs Q E hr h => ?_)
  · obtain ⟨v, u, n, M, N, rfl, _⟩ := h
    rfl
  · obtain ⟨v, u, n, M, N, rfl, hM, hN, sM, sN, wM, wN, q⟩ := h
    refine ⟨_, (pss_cons (ps_set (i := 2) sc__law_product.nd rfl (Or.inr rfl) (pe_call G__law_turned (hr.mono (by decide)) (by rfl) T.g__law_turned T.f__law_turned.kp (b__law_turned T) .nil pass0 (pa_cons (pv 1) pa_nil)))
      (pss_one (ps_ret (pe_callTy call_tuple_of (by rfl) T.n_tuple (by decide +kernel) (pa_cons (pe_lc (own := [("_law_row", 3)]) (g := (gName 3)) (tt := tYes)  rfl sc__law_product.nd (pi_tup (pv 0)) (blkOk_by (own := [("_law_row", 3)]) (N := names__law_product) (sc := defScope s__law_product) (by decide +kernel)) (fun _ _ _ _ _ => (pg_name (i := 3) sc__law_product.nd rfl (Or.inl rfl))) (fun _ _ _ _ _ => pts_nil) (fun _ _ _ _ _ => by apply My.pe_eq; (case h => exact (pe_call G__law_row_led (hr.mono (by decide)) (by rfl) T.g__law_row_led T.f__law_row_led.kp (b__law_row_led T) .nil pass0 (pa_cons (pv 2) (pa_cons (pv 3) pa_nil)))); all_goals (first | exact rfl | (dsimp only [L2.Cx.blk, L2.Cx.nox, L2.cxOf]; done) | (dsimp only [L2.Cx.blk, L2.Cx.nox, L2.cxOf]; exact rfl)))) pa_nil))))), ?_⟩
    refine ⟨_, rfl, u, N, n, rfl, hN, sN, fun c H1 e1 hc => ?_⟩
    obtain ⟨a, ls, rfl, hsA, hlA, hrA⟩ := hM.sq
    have hz := sM.lt
    dsimp only [gName, tRet, tCB, tCons, tNil]
    refine comp_one (K := K) (walk_tup (a := a) (xs := ls)) (fun k => rowD (imgL (trM n N) (M.getD k []))) (by omega) (fun H' e => same_t (e1.trans e) hsA) (fun R r => ⟨_, rfl, a, rfl, ⟨_, same_t e1 hsA⟩, r⟩) (fun x => rfl) ?_ ?_
    · intro k x D acc H2 A1 hk e2 hD hL hx hA
      have hkM : k < M.length := by omega
      obtain ⟨tr, htr, hst⟩ := hrA k M[k] (List.getElem?_eq_getElem hkM)
      obtain rfl : x = .ref tr := by rw [hx] at htr; exact Option.some.inj htr
      have eM : M.getD k [] = M[k] := by simp [hkM]
      rw [eM] at hA
      refine ⟨_, rfl, _, rfl, c, _, trM n N, M[k], rfl, hc.mono e2, ⟨tr, rfl, same_t (e1.trans e2) hst⟩, wN.tr sN, wM _ (List.getElem_mem hkM), sN.tr.lt, sN.tr.rlt, fun v' H3 e3 h3 => ?_⟩
      obtain ⟨t3, rfl, hs3⟩ := h3
      exact hA _ _ e3 fun u => row_jd (t_upd (e3 _ _ hL) hs3)
    · intro D ys H2 e2 hD hL hj
      rw [range_getD' (fun l : List Int => rowD (imgL (trM n N) l)) [] M ls.length hlA] at hj
      have hr2 : RowsAt K H2 ys ((mulM n M N).map irow) := jd_rows (by
        have e : (mulM n M N).map rowD = M.map fun l => rowD (imgL (trM n N) l) := by
          simp only [mulM, imgL, List.map_map, Function.comp_def, dot_comm]
        rw [e]; exact hj)
      exact ⟨D, _, rfl, .inl ⟨.inl (.inl hL), fun l hl => q _ _ (e1.trans (e2.trans (same_new hl))) ⟨l, ys, rfl, .inl (.inl upd_same), rows_mono (same_new hl) hr2⟩⟩⟩
def sp_law_led (K : PySem.W.Frag) : Sp := fun vs H Q _ => ∃ v u n S U, vs = [v, u] ∧ MtAt K H true v S ∧ MtAt K H true u U ∧ Sq n S ∧ Sq n U ∧ AllW S ∧ AllW U ∧ AllW (mulM n (trM n U) S) ∧ ∀ v' H', Same H H' → MtAt K H' true v' (ledM n S U) → Q v' H'
theorem ok__law_led (T : Txt K mg A) : FnOk P w K mg base CX0 3 A.a__law_led A.d__law_led ["_law_table", "_law_matrix_here"] (sp_law_led K) := by
  have G__law_turned : FnOk P w K mg base CX0 1 A.a__law_turned A.d__law_turned ["_law_rows"] (sp_law_turned K) := ok__law_turned T
  have G__law_product : FnOk P w K mg base CX0 2 A.a__law_product A.d__law_product ["_law_one", "_law_other"] (sp_product K) := ok__law_product T
  refine T.f__law_led.ok sc__law_led (fun vs H Q E h => ?_) (fun cdv B out t H vs Q E hr h => ?_)
  · obtain ⟨v, u, n, S, U, rfl, _⟩ := h
    rfl
  · obtain ⟨v, u, n, S, U, rfl, hS, hU, sS, sU, wS, wU, wP, q⟩ := h
    refine ⟨_, (pss_one (ps_ret (pe_call G__law_product (hr.mono (by decide)) (by rfl) T.g__law_product T.f__law_product.kp (b__law_product T) .nil pass0 (pa_cons (pe_call G__law_product (hr.mono (by decide)) (by rfl) T.g__law_product T.f__law_product.kp (b__law_product T) .nil pass0 (pa_cons (pe_call G__law_turned (hr.mono (by decide)) (by rfl) T.g__law_turned T.f__law_turned.kp (b__law_turned T) .nil pass0 (pa_cons (pv 1) pa_nil)) (pa_cons (pv 0) pa_nil))) (pa_cons (pv 1) pa_nil))))), ?_⟩
    refine ⟨_, rfl, u, U, n, rfl, hU, sU, fun t1 H1 e1 h1 => ?_⟩
    refine ⟨_, rfl, t1, v, n, trM n U, S, rfl, h1, hS.mono e1, sU.tr, sS, wU.tr sU, wS, fun t2 H2 e2 h2 => ?_⟩
    refine ⟨_, rfl, t2, u, n, _, U, rfl, h2, hU.mono (e1.trans e2), sU.tr.mul, sU, wP, wU, fun t3 H3 e3 h3 => ?_⟩
    rw [led_other sS sU] at h3
    exact q t3 H3 (e1.trans (e2.trans e3)) h3
def sp_law_moved (K : PySem.W.Frag) : Sp := fun vs H Q _ => ∃ v u n S U, vs = [v, u] ∧ MtAt K H true v S ∧ MtAt K H true u U ∧ Sq n S ∧ Sq n U ∧ AllW S ∧ AllW U ∧ AllW (mulM n U S) ∧ ∀ v' H', Same H H' → MtAt K H' true v' (movM n S U) → Q v' H'
theorem ok__law_moved (T : Txt K mg A) : FnOk P w K mg base CX0 3 A.a__law_moved A.d__law_moved ["_law_table", "_law_matrix_here"] (sp_law_moved K) := by
  have G__law_turned : FnOk P w K mg base CX0 1 A.a__law_turned A.d__law_turned ["_law_rows"] (sp_law_turned K) := ok__law_turned T
  have G__law_product : FnOk P w K mg base CX0 2 A.a__law_product A.d__law_product ["_law_one", "_law_other"] (sp_product K) := ok__law_product T
  refine T.f__law_moved.ok sc__law_moved (fun vs H Q E h => ?_) (fun cdv B out t H vs Q E hr h => ?_)
  · obtain ⟨v, u, n, S, U, rfl, _⟩ := h
    rfl
  · obtain ⟨v, u, n, S, U, rfl, hS, hU, sS, sU, wS, wU, wP, q⟩ := h
    refine ⟨_, (pss_one (ps_ret (pe_call G__law_product (hr.mono (by decide)) (by rfl) T.g__law_product T.f__law_product.kp (b__law_product T) .nil pass0 (pa_cons (pe_call G__law_product (hr.mono (by decide)) (by rfl) T.g__law_product T.f__law_product.kp (b__law_product T) .nil pass0 (pa_cons (pv 1) (pa_cons (pv 0) pa_nil))) (pa_cons (pe_call G__law_turned (hr.mono (by decide)) (by rfl) T.g__law_turned T.f__law_turned.kp (b__law_turned T) .nil pass0 (pa_cons (pv 1) pa_nil)) pa_nil))))), ?_⟩
    refine ⟨_, rfl, _, rfl, u, v, n, U, S, rfl, hU, hS, sU, sS, wU, wS, fun t2 H2 e2 h2 => ?_⟩
    refine ⟨_, rfl, u, U, n, rfl, hU.mono e2, sU, fun t1 H1 e1 h1 => ?_⟩
    refine ⟨t2, t1, n, _, _, rfl, h2.mono e1, h1, sU.mul, sU.tr, wP, wU.tr sU, fun t3 H3 e3 h3 => ?_⟩
    rw [mov_other sS sU] at h3
    exact q t3 H3 (e2.trans (e1.trans e3)) h3
def sp_law_together (K : PySem.W.Frag) : Sp := fun vs H Q _ => ∃ v u n S U, vs = [v, u] ∧ MtAt K H true v S ∧ MtAt K H true u U ∧ Sq n S ∧ Sq n U ∧ AllW S ∧ AllW U ∧ ∀ H', Same H H' → Q (.int (togM S U)) H'
theorem ok__law_together (T : Txt K mg A) : FnOk P w K mg base CX0 1 A.a__law_together A.d__law_together ["_law_one", "_law_other"] (sp_law_together K) := by
  refine T.f__law_together.ok sc__law_together (fun vs H Q E h => ?_) (fun cdv B out t H vs Q E hr h => ?_)
  · obtain ⟨v, u, n, S, U, rfl, _⟩ := h
    rfl
  · obtain ⟨v, u, n, S, U, rfl, hS, hU, sS, sU, wS, wU, q⟩ := h
    refine ⟨_, (pss_one (ps_ret (pe_callB (cr_sum rfl) (by rfl) T.n_sum (by decide +kernel) (pa_cons (pe_lc (own := [("_law_row", 4), ("_law_line", 5)]) (g := (gTup K 2 (gCons (gName 4) (gCons (gName 5) gNil)))) (tt := tYes)  rfl sc__law_together.nd (ZN.pi_zip2 (by rfl) T.n_zip (pa_cons (pv 0) (pa_cons (pv 1) pa_nil))) (blkOk_by (own := [("_law_row", 4), ("_law_line", 5)]) (N := names__law_together) (sc := defScope s__law_together) (by decide +kernel)) (fun _ _ _ _ _ => (pg_tup (by rfl) (pgs_cons (pg_name (i := 4) sc__law_together.nd rfl (Or.inl rfl)) (pgs_cons (pg_name (i := 5) sc__law_together.nd rfl (Or.inl rfl)) pgs_nil)))) (fun _ _ _ _ _ => pts_nil) (fun _ _ _ _ _ => by apply My.pe_eq; (case h => exact (pe_callB (cr_sum rfl) (by rfl) T.n_sum (by decide +kernel) (pa_cons (by exact (pe_lc (own := [("_law_here", 2), ("_law_there", 3)]) (g := (gTup K 2 (gCons (gName 2) (gCons (gName 3) gNil)))) (tt := tYes)  rfl sc__law_together.nd (ZN.pi_zip2 (by rfl) T.n_zip (pa_cons (pv 4) (pa_cons (pv 5) pa_nil))) (by (exact L2.blkOk_by (by kernel_rfl))) (fun _ _ _ _ _ => (pg_tup (by rfl) (pgs_cons (pg_name (i := 2) sc__law_together.nd rfl (Or.inl rfl)) (pgs_cons (pg_name (i := 3) sc__law_together.nd rfl (Or.inl rfl)) pgs_nil)))) (fun _ _ _ _ _ => pts_nil) (fun _ _ _ _ _ => by apply My.pe_eq; (case h => exact (pe_op op_mulW (pv 2) (pv 3))); all_goals (first | exact rfl | (dsimp only [L2.Cx.blk, L2.Cx.nox, L2.cxOf]; done) | (dsimp only [L2.Cx.blk, L2.Cx.nox, L2.cxOf]; exact rfl))))) pa_nil))); all_goals (first | exact rfl | (dsimp only [L2.Cx.blk, L2.Cx.nox, L2.cxOf]; done) | (dsimp only [L2.Cx.blk, L2.Cx.nox, L2.cxOf]; exact rfl)))) pa_nil)))), ?_⟩
    obtain ⟨a, ls, rfl, hsA, hlA, hrA⟩ := hS.sq
    obtain ⟨b, ms, rfl, hsB, hlB, hrB⟩ := hU.sq
    have hz := sS.lt
    have hSn := sS.len
    have hUn := sU.len
    dsimp only [tRet, tCB, tCons, tNil]
    refine comp_pair (K := K) (walk_zip2 (k1 := true) (k2 := true) (a := a) (b := b) (xs := ls) (ys := ms) (n := n) (by omega)) (fun k => .int (dotL (S.getD k []) (U.getD k []))) sS.few
      (fun H' e => ⟨same_k e hsA, same_k e hsB⟩) (fun R r => ⟨_, rfl, _, rfl, true, true, a, b, _, _, rfl, hsA, hsB, r⟩) (fun x y => rfl) ?_ ?_
    · intro k x y D acc H1 A1 hk e1 hD hL hx hy hA
      have hkS : k < S.length := by omega
      have hkU : k < U.length := by omega
      obtain ⟨ta, hta, hsa⟩ := hrA k S[k] (List.getElem?_eq_getElem hkS)
      obtain ⟨tb, htb, hsb⟩ := hrB k U[k] (List.getElem?_eq_getElem hkU)
      have hx' : ls[k]? = some x := hx
      have hy' : ms[k]? = some y := hy
      obtain rfl : x = .ref ta := by rw [hx'] at hta; exact Option.some.inj hta
      obtain rfl : y = .ref tb := by rw [hy'] at htb; exact Option.some.inj htb
      have eS : S.getD k [] = S[k] := by simp [hkS]
      have eU : U.getD k [] = U[k] := by simp [hkU]
      rw [eS, eU] at hA
      exact sum_zip (k1 := true) (k2 := true) (fun R r => ⟨_, rfl, _, rfl, true, true, ta, tb, _, _, rfl, same_t e1 hsa, same_t e1 hsb, r⟩) (same_t e1 hsa) (same_t e1 hsb) (wS _ (List.getElem_mem hkS)) (wU _ (List.getElem_mem hkU))
        (by rw [sS.row _ (List.getElem_mem hkS)]; exact sS.few) (fun x y => rfl) (fun x y => rfl) (fun x y => rfl) fun H4 e4 => hA _ H4 e4 fun u => .int _
    · intro D ys H1 e1 hD hL hj
      have e : (List.range n).map (fun k => PyData.int (dotL (S.getD k []) (U.getD k []))) = (List.zipWith dotL S U).map PyData.int := by
        apply List.ext_getElem
        · simp; omega
        · intro k h1 h2
          simp only [List.length_map, List.length_range] at h1
          have hkS : k < S.length := by omega
          have hkU : k < U.length := by omega
          simp [hkS, hkU]
      rw [e] at hj
      rw [jd_ints_inv _ _ hj] at hL
      have et : (List.zipWith dotL S U).sum = togM S U := (tog_rows n S U (by omega) sS.row sU.row).symm
      refine ⟨D, _, rfl, .inl (.inl hL), ?_⟩
      rw [et]
      exact q H1 e1
/-- a table and so many times another one -/
def plusM (S U : List (List Int)) (f : Int) : List (List Int) := List.zipWith (fun x y => addR f x y) S U
def sp_plus (K : PySem.W.Frag) : Sp := fun vs H Q _ => ∃ v u f n S U, vs = [v, u, .int f] ∧ MtAt K H true v S ∧ MtAt K H true u U ∧ Sq n S ∧ Sq n U ∧ Wd f ∧ AllW U ∧ ∀ v' H', Same H H' → MtAt K H' true v' (plusM S U f) → Q v' H'
theorem ok__law_plus (T : Txt K mg A) : FnOk P w K mg base CX0 1 A.a__law_plus A.d__law_plus ["_law_one", "_law_other", "_law_factor"] (sp_plus K) := by
  refine T.f__law_plus.ok sc__law_plus (fun vs H Q E h => ?_) (fun cdv B out t H vs Q E hr h => ?_)
  · obtain ⟨v, u, f, n, S, U, rfl, _⟩ := h
    rfl
  · obtain ⟨v, u, f, n, S, U, rfl, hS, hU, sS, sU, wf, wU, q⟩ := h
    refine ⟨_, (pss_one (ps_ret (pe_callTy call_tuple_of (by rfl) T.n_tuple (by decide +kernel) (pa_cons (pe_lc (own := [("_law_row", 5), ("_law_line", 6)]) (g := (gTup K 2 (gCons (gName 5) (gCons (gName 6) gNil)))) (tt := tYes)  rfl sc__law_plus.nd (ZN.pi_zip2 (by rfl) T.n_zip (pa_cons (pv 0) (pa_cons (pv 1) pa_nil))) (blkOk_by (own := [("_law_row", 5), ("_law_line", 6)]) (N := names__law_plus) (sc := defScope s__law_plus) (by decide +kernel)) (fun _ _ _ _ _ => (pg_tup (by rfl) (pgs_cons (pg_name (i := 5) sc__law_plus.nd rfl (Or.inl rfl)) (pgs_cons (pg_name (i := 6) sc__law_plus.nd rfl (Or.inl rfl)) pgs_nil)))) (fun _ _ _ _ _ => pts_nil) (fun _ _ _ _ _ => by apply My.pe_eq; (case h => exact (pe_callTy call_tuple_of (by rfl) T.n_tuple (by decide +kernel) (pa_cons (by exact (pe_lc (own := [("_law_here", 3), ("_law_there", 4)]) (g := (gTup K 2 (gCons (gName 3) (gCons (gName 4) gNil)))) (tt := tYes)  rfl sc__law_plus.nd (ZN.pi_zip2 (by rfl) T.n_zip (pa_cons (pv 5) (pa_cons (pv 6) pa_nil))) (by (exact L2.blkOk_by (by kernel_rfl))) (fun _ _ _ _ _ => (pg_tup (by rfl) (pgs_cons (pg_name (i := 3) sc__law_plus.nd rfl (Or.inl rfl)) (pgs_cons (pg_name (i := 4) sc__law_plus.nd rfl (Or.inl rfl)) pgs_nil)))) (fun _ _ _ _ _ => pts_nil) (fun _ _ _ _ _ => by apply My.pe_eq; (case h => exact (pe_op op_add (pv 3) (pe_op op_mulW (pv 2) (pv 4)))); all_goals (first | exact rfl | (dsimp only [L2.Cx.blk, L2.Cx.nox, L2.cxOf]; done) | (dsimp only [L2.Cx.blk, L2.Cx.nox, L2.cxOf]; exact rfl))))) pa_nil))); all_goals (first | exact rfl | (dsimp only [L2.Cx.blk, L2.Cx.nox, L2.cxOf]; done) | (dsimp only [L2.Cx.blk, L2.Cx.nox, L2.cxOf]; exact rfl)))) pa_nil)))), ?_⟩
    obtain ⟨a, ls, rfl, hsA, hlA, hrA⟩ := hS.sq
    obtain ⟨b, ms, rfl, hsB, hlB, hrB⟩ := hU.sq
    have hz := sS.lt
    have hSn := sS.len
    have hUn := sU.len
    have hfew := sS.few
    dsimp only [tRet, tCB, tCons, tNil]
    refine comp_pair (K := K) (walk_zip2 (k1 := true) (k2 := true) (a := a) (b := b) (xs := ls) (ys := ms) (n := n) (by omega)) (fun k => rowD (addR f (S.getD k []) (U.getD k []))) sS.few
      (fun H' e => ⟨same_k e hsA, same_k e hsB⟩) (fun R r => ⟨_, rfl, _, rfl, true, true, a, b, _, _, rfl, hsA, hsB, r⟩) (fun x y => rfl) ?_ ?_
    · intro k x y D acc H1 A1 hk e1 hD hL hx hy hA
      have hkS : k < S.length := by omega
      have hkU : k < U.length := by omega
      obtain ⟨ta, hta, hsa⟩ := hrA k S[k] (List.getElem?_eq_getElem hkS)
      obtain ⟨tb, htb, hsb⟩ := hrB k U[k] (List.getElem?_eq_getElem hkU)
      have hx' : ls[k]? = some x := hx
      have hy' : ms[k]? = some y := hy
      obtain rfl : x = .ref ta := by rw [hx'] at hta; exact Option.some.inj hta
      obtain rfl : y = .ref tb := by rw [hy'] at htb; exact Option.some.inj htb
      have eS : S.getD k [] = S[k] := by simp [hkS]
      have eU : U.getD k [] = U[k] := by simp [hkU]
      rw [eS, eU] at hA
      have lS : S[k].length = n := sS.row _ (List.getElem_mem hkS)
      have lU : U[k].length = n := sU.row _ (List.getElem_mem hkU)
      have wk := wU _ (List.getElem_mem hkU)
      generalize S[k] = rs at *
      generalize U[k] = ru at *
      dsimp only [tCB, tCons, tNil]
      refine comp_pair (K := K) (walk_zip2 (k1 := true) (k2 := true) (a := ta) (b := tb) (xs := irow rs) (ys := irow ru) rfl) (fun k => .int (rs.getD k 0 + f * ru.getD k 0)) (by simp only [irow, List.length_map]; omega)
        (fun H' e => ⟨same_t (e1.trans e) hsa, same_t (e1.trans e) hsb⟩) (fun R r => ⟨_, rfl, _, rfl, true, true, ta, tb, _, _, rfl, same_t e1 hsa, same_t e1 hsb, r⟩) (fun x y => rfl) ?_ ?_
      · intro m x y D2 acc2 H2 A2 hm e2 hD2 hL2 hx2 hy2 hA2
        obtain ⟨hm1, rfl⟩ := irow_get' hx2
        obtain ⟨hm2, rfl⟩ := irow_get' hy2
        exact ⟨_, rfl, _, rfl, _, rfl, _, _, rfl, rfl, Wd.mul wf (wk _ (mem_getD hm2)), _, _, rfl, rfl, hA2 _ _ (Same.refl _) fun u => .int _⟩
      · intro D2 ys H2 e2 hD2 hL2 hj
        rw [zipW_data (fun x y => x + f * y)] at hj
        rw [jd_ints_inv _ _ hj] at hL2
        exact ⟨D2, _, rfl, .inl ⟨.inl (.inl hL2), fun l hl => hA _ _ (e2.trans (same_new hl)) fun u => row_new (e2 _ _ hL) hl⟩⟩
    · intro D ys H1 e1 hD hL hj
      have e : (List.range n).map (fun k => rowD (addR f (S.getD k []) (U.getD k []))) = (plusM S U f).map rowD := by
        apply List.ext_getElem
        · simp [plusM]; omega
        · intro k h1 h2
          simp only [List.length_map, List.length_range] at h1
          have hkS : k < S.length := by omega
          have hkU : k < U.length := by omega
          simp [plusM, hkS, hkU]
      rw [e] at hj
      exact ⟨D, _, rfl, .inl ⟨.inl (.inl hL), fun l hl => q _ _ (e1.trans (same_new hl)) ⟨l, ys, rfl, .inl (.inl upd_same), rows_mono (same_new hl) (jd_rows hj)⟩⟩⟩
end
end K06

set_option maxHeartbeats 1000000
namespace K06
open PySem PySem.Spec PyProof.Rows L2 My ZN
section
variable {P : Program} {w : World} {K : PySem.W.Frag} {mg : Str → Option Value} {base : Heap} {A : Adr}
theorem mk_sym {n : Nat} (p : 0 < n) (q : n < 100000) {f : Nat → Nat → Int} (h : ∀ i j, f i j = f j i) : Sy n (mkM n f) := by
  have s : Sq n (mkM n f) := mkM_sq p q
  refine Sq.ext s.tr s fun i j hi hj => ?_
  rw [en_tr s hi hj, en_mk hj hi, en_mk hi hj, h]
theorem mk_ab {n b : Nat} (p : 0 < n) (q : n < 100000) {f : Nat → Nat → Int} (h : ∀ i j, i < n → j < n → (f i j).natAbs ≤ b) : Ab b (mkM n f) := Ab.of (mkM_sq p q) fun i j hi hj => by rw [en_mk hi hj]; exact h i j hi hj
def sp_some_table (K : PySem.W.Frag) : Sp := fun vs H Q _ => ∃ (b : Addr) (n s : Nat), vs = [.ref b, .int (n : Nat), .int (s : Nat)] ∧ Bag H b ∧ N4 n ∧ s < 10 ^ 30 ∧ ∀ v M H', MtAt K H' true v M → Sq n M → Ab s M → Sy n M → But b H H' → Bag H' b → Q v H'
theorem ok__law_some_table (T : Txt K mg A) : FnOk P w K mg base CX0 3 A.a__law_some_table A.d__law_some_table ["_law_bag_here", "_law_size_here", "_law_spread"] (sp_some_table K) := by
  have G__law_number : FnOk P w K mg base CX0 2 A.a__law_number A.d__law_number ["_law_bag_here", "_law_spread"] sp_number := ok__law_number T
  refine T.f__law_some_table.ok sc__law_some_table (fun vs H Q E h => ?_) (fun cdv B out t H vs Q E hr h => ?_)
  · obtain ⟨b, n, s, rfl, _⟩ := h
    rfl
  · obtain ⟨b, n, s, rfl, bag, h4, hs, q⟩ := h
    refine ⟨_, (pss_cons (ps_set (i := 3) sc__law_some_table.nd rfl (Or.inr rfl) (pe_lc (own := [("_law_line", 5)]) (g := (gName 5)) (tt := tYes)  rfl sc__law_some_table.nd (pi_range1 (by rfl) T.n_range (pa_cons (pv 1) pa_nil)) (blkOk_by (own := [("_law_line", 5)]) (N := names__law_some_table) (sc := defScope s__law_some_table) (by decide +kernel)) (fun _ _ _ _ _ => (pg_name (i := 5) sc__law_some_table.nd rfl (Or.inl rfl))) (fun _ _ _ _ _ => pts_nil) (fun _ _ _ _ _ => by apply My.pe_eq; (case h => exact (by exact (pe_lc (own := [("_law_turn", 4)]) (g := (gName 4)) (tt := tYes)  rfl sc__law_some_table.nd (pi_range1 (by rfl) T.n_range (pa_cons (pv 1) pa_nil)) (by (exact L2.blkOk_by (by kernel_rfl))) (fun _ _ _ _ _ => (pg_name (i := 4) sc__law_some_table.nd rfl (Or.inl rfl))) (fun _ _ _ _ _ => pts_nil) (fun _ _ _ _ _ => by apply My.pe_eq; (case h => exact (pe_call G__law_number (hr.mono (by decide)) (by rfl) T.g__law_number T.f__law_number.kp (b__law_number T) .nil pass0 (pa_cons (pv 0) (pa_cons (pv 2) pa_nil)))); all_goals (first | exact rfl | (dsimp only [L2.Cx.blk, L2.Cx.nox, L2.cxOf]; done) | (dsimp only [L2.Cx.blk, L2.Cx.nox, L2.cxOf]; exact rfl)))))); all_goals (first | exact rfl | (dsimp only [L2.Cx.blk, L2.Cx.nox, L2.cxOf]; done) | (dsimp only [L2.Cx.blk, L2.Cx.nox, L2.cxOf]; exact rfl)))))
      (pss_one (ps_ret (pe_callTy call_tuple_of (by rfl) T.n_tuple (by decide +kernel) (pa_cons (pe_lc (own := [("_law_at", 7)]) (g := (gName 7)) (tt := tYes)  rfl sc__law_some_table.nd (pi_range1 (by rfl) T.n_range (pa_cons (pv 1) pa_nil)) (blkOk_by (own := [("_law_at", 7)]) (N := names__law_some_table) (sc := defScope s__law_some_table) (by decide +kernel)) (fun _ _ _ _ _ => (pg_name (i := 7) sc__law_some_table.nd rfl (Or.inr rfl))) (fun _ _ _ _ _ => pts_nil) (fun _ _ _ _ _ => by apply My.pe_eq; (case h => exact (pe_callTy call_tuple_of (by rfl) T.n_tuple (by decide +kernel) (pa_cons (by exact (pe_lc (own := [("_law_to", 6)]) (g := (gName 6)) (tt := tYes)  rfl sc__law_some_table.nd (pi_range1 (by rfl) T.n_range (pa_cons (pv 1) pa_nil)) (by (exact L2.blkOk_by (by kernel_rfl))) (fun _ _ _ _ _ => (pg_name (i := 6) sc__law_some_table.nd rfl (Or.inl rfl))) (fun _ _ _ _ _ => pts_nil) (fun _ _ _ _ _ => by apply My.pe_eq; (case h => exact (pe_ix ix_seq (pe_ix ix_seq (pv 3) (pe_callB (call_min2 rfl) (by rfl) T.n_min (by decide +kernel) (pa_cons (pv 7) (pa_cons (pv 6) pa_nil))) (fun _ _ => rfl)) (pe_callB (call_max2 rfl) (by rfl) T.n_max (by decide +kernel) (pa_cons (pv 7) (pa_cons (pv 6) pa_nil))) (fun _ _ => rfl))); all_goals (first | exact rfl | (dsimp only [L2.Cx.blk, L2.Cx.nox, L2.cxOf]; done) | (dsimp only [L2.Cx.blk, L2.Cx.nox, L2.cxOf]; exact rfl))))) pa_nil))); all_goals (first | exact rfl | (dsimp only [L2.Cx.blk, L2.Cx.nox, L2.cxOf]; done) | (dsimp only [L2.Cx.blk, L2.Cx.nox, L2.cxOf]; exact rfl)))) pa_nil))))), ?_⟩
    have hn2 := h4.two
    have hn4 := h4.four
    have n62 : ((n : Nat) : Int) < 2 ^ 62 := by omega
    dsimp only [gName, tSeq, tAsg, tCB, tCons, tNil]
    rw [tLc_eq]
    refine ⟨_, rfl, _, rfl, by omega, n62, ?_⟩
    rw [Int.toNat_natCast]
    unfold LcAt
    refine comp_bj (b := b) (walk_range (lo := 0) (n := n)) (fun k x => True) (fun k H1 x H2 hy => ⟨hy.1, trivial⟩) bag (fun _ H y => LsAt b n s H y) (fun _ _ _ _ e h => h.mono e) (by omega) (fun _ _ _ => trivial) (fun R q0 => q0) (fun x => rfl) ?_ ?_
    · intro k x D acc H1 Q' hk _ e1 b1 hD hL hq
      rw [tLc_eq]
      refine ⟨_, rfl, _, rfl, by omega, n62, ?_⟩
      rw [Int.toNat_natCast]
      unfold LcAt
      refine comp_bj (b := b) (walk_range (lo := 0) (n := n)) (fun k x => True) (fun k H1 x H2 hy => ⟨hy.1, trivial⟩) b1 (fun _ H y => ∃ x : Int, y = .int x ∧ x.natAbs ≤ s) (fun _ _ _ _ e h => h) (by omega) (fun _ _ _ => trivial) (fun R q0 => q0) (fun x => rfl) ?_ ?_
      · intro k2 x2 D2 acc2 H2 Q2 hk2 _ e2 b2 hD2 hL2 hq2
        exact ⟨_, rfl, _, rfl, b, s, rfl, b2, hs, fun x H' hx e bag' => hq2 _ H' e bag' fun u => ⟨x, rfl, hx⟩⟩
      · intro D2 ys H2 e2 b2 hDb hD2 hl hok hL2
        obtain ⟨ns, rfl, hns⟩ := oks_ints ys fun y hy => by
          obtain ⟨k2, hk2, rfl⟩ := List.getElem_of_mem hy
          exact hok k2 _ (List.getElem?_eq_getElem hk2)
        refine hq _ H2 e2 b2 fun u => ⟨D2, ns, rfl, hDb, ?_, by simpa using hl, hns⟩
        rw [upd_ne (fun e => by subst e; rw [hL] at hD2; cases hD2)]
        exact hL2
    · intro D ys H1 e1 b1 hDb hD hl hok hL
      obtain ⟨N, hN1, hN2, hN3⟩ := ls_all (fun k y hk => hok k y hk)
      have hNn : N.length = n := by omega
      have hF : ∀ i j, i < n → j < n → (N.getD i []).length = n ∧ Rb s (N.getD i []) := fun i j hi _ => by
        have e : N.getD i [] = N[i] := by simp [hNn, hi]
        rw [e]; exact hN2 _ (List.getElem_mem _)
      dsimp only [tRet, tCB, tCons, tNil]
      rw [tLc_eq]
      refine ⟨_, rfl, _, rfl, by omega, n62, ?_⟩
      rw [Int.toNat_natCast]
      unfold LcAt
      have hsL : SqL K H1 D ys := .inl (.inl hL)
      refine comp_rng (K := K) (walk_range (lo := 0) (n := n)) (fun i => rowD ((List.range n).map fun j => (N.getD (min i j) []).getD (max i j) 0)) (by omega) (fun _ _ => trivial) (fun R q0 => q0) (fun x => rfl) ?_ ?_
      · intro i D2 acc2 H2 A1 hi e2 hD2 hL2 hA
        dsimp only [tCB, tCons, tNil]
        rw [tLc_eq]
        refine ⟨_, rfl, _, rfl, by omega, n62, ?_⟩
        rw [Int.toNat_natCast, Int.zero_add]
        unfold LcAt
        refine comp_rng (K := K) (walk_range (lo := 0) (n := n)) (fun j => .int ((N.getD (min i j) []).getD (max i j) 0)) (by omega) (fun _ _ => trivial) (fun R q0 => q0) (fun x => rfl) ?_ ?_
        · intro j D3 acc3 H3 A2 hj e3 hD3 hL3 hA2
          rw [Int.zero_add]
          have emin : (if (j : Int) < (i : Int) then (j : Int) else (i : Int)) = ((min i j : Nat) : Int) := by split <;> omega
          have emax : (if (j : Int) > (i : Int) then (j : Int) else (i : Int)) = ((max i j : Nat) : Int) := by split <;> omega
          have hmn : min i j < N.length := by omega
          obtain ⟨t1, ht1, htb, hL1⟩ := hN3 (min i j) N[min i j] (List.getElem?_eq_getElem hmn)
          have en : N.getD (min i j) [] = N[min i j] := by simp [hmn]
          have hmx : max i j < N[min i j].length := by rw [(hN2 _ (List.getElem_mem hmn)).1]; omega
          have e23 := e2.trans e3
          have hrow : SqL K H3 t1 (irow N[min i j]) := .inl (.inl (e23 _ _ hL1))
          refine ⟨_, rfl, _, rfl, _, rfl, _, _, rfl, ?_⟩
          show rIx K (.ref D) (.int (if (j : Int) < (i : Int) then (j : Int) else (i : Int))) _ _
          rw [emin]
          refine ix_k (k := false) (same_l e23 hsL) ht1 ⟨_, rfl, _, rfl, _, _, rfl, ?_⟩
          show rIx K (.ref t1) (.int (if (j : Int) > (i : Int) then (j : Int) else (i : Int))) _ _
          rw [emax]
          refine ix_k (k := false) hrow (irow_get hmx) (hA2 _ _ (Same.refl _) fun u => ?_)
          rw [en]
          exact .int _
        · intro D3 zs H3 e3 hD3 hL3 hj
          have hj2 : JdAll K H3 zs (((List.range n).map fun j => (N.getD (min i j) []).getD (max i j) 0).map PyData.int) := by simpa [List.map_map, Function.comp_def] using hj
          rw [jd_ints_inv _ _ hj2] at hL3
          exact ⟨D3, _, rfl, .inl ⟨.inl (.inl hL3), fun l hl => hA _ _ (e3.trans (same_new hl)) fun u => row_new (e3 _ _ hL2) hl⟩⟩
      · intro D2 zs H2 e2 hD2 hL2 hj
        have hr2 : RowsAt K H2 zs ((mkM n fun i j => (N.getD (min i j) []).getD (max i j) 0).map irow) := jd_rows (by simpa [mkM, List.map_map, Function.comp_def] using hj)
        refine ⟨D2, _, rfl, .inl ⟨.inl (.inl hL2), fun l hl => ?_⟩⟩
        have e := e2.trans (same_new (o := .tup zs) hl)
        exact q _ _ _ ⟨l, zs, rfl, .inl (.inl upd_same), rows_mono (same_new hl) hr2⟩ (mkM_sq (by omega) (by omega)) (mk_ab (by omega) (by omega) fun i j hi hj => (hF (min i j) 0 (by omega) (by omega)).2.get _)
          (mk_sym (by omega) (by omega) fun i j => by rw [Nat.min_comm, Nat.max_comm]) (e1.trans (But.of e)) (b1.same e)
end
end K06

set_option maxHeartbeats 1000000
namespace K06
open PySem PySem.Spec PyProof.Rows L2 My ZN
section
variable {P : Program} {w : World} {K : PySem.W.Frag} {mg : Str → Option Value} {base : Heap} {A : Adr}
theorem pop_perm {α : Type} : ∀ (l : List α) (k : Nat) (h : k < l.length), (l[k] :: l.eraseIdx k).Perm l
  | x :: l, 0, _ => List.Perm.refl _
  | x :: l, k + 1, h => by
    have ih := pop_perm l k (by simpa using h)
    simp only [List.getElem_cons_succ, List.eraseIdx_cons_succ]
    exact (List.Perm.swap x _ _).trans (ih.cons x)
theorem perm_pop {α : Type} (ys rest : List α) (k : Nat) (h : k < rest.length) {xs : List α} (p : (ys ++ rest).Perm xs) : (ys ++ [rest[k]] ++ rest.eraseIdx k).Perm xs := by
  refine List.Perm.trans ?_ p
  rw [List.append_assoc]
  refine List.Perm.append_left ys ?_
  exact pop_perm rest k h
def sp_mixed (K : PySem.W.Frag) : Sp := fun vs H Q _ => ∃ (b p : Addr) (xs : List V), vs = [.ref b, .ref p] ∧ Bag H b ∧ SqL K H p xs ∧ xs.length < 1000 ∧ ∀ D ys H', ys.Perm xs → But b H H' → Bag H' b → D ≠ b → H D = none → H' D = some (.lst ys) → Q (.ref D) H'
theorem ok__law_mixed (T : Txt K mg A) : FnOk P w K mg base CX0 2 A.a__law_mixed A.d__law_mixed ["_law_bag_here", "_law_items"] (sp_mixed K) := by
  have G__law_grab : FnOk P w K mg base CX0 1 A.a__law_grab A.d__law_grab ["_law_bag_here", "_law_total"] sp_grab := ok__law_grab T
  refine T.f__law_mixed.ok sc__law_mixed (fun vs H Q E h => ?_) (fun cdv B out t H vs Q E hr h => ?_)
  · obtain ⟨b, p, xs, rfl, _⟩ := h
    rfl
  · obtain ⟨b, p, xs, rfl, bag, hs, hz, q⟩ := h
    refine ⟨_, (pss_cons (ps_set (i := 2) sc__law_mixed.nd rfl (Or.inr rfl) (pe_callTy call_list_of (by rfl) T.n_list (by decide +kernel) (pa_cons (pv 1) pa_nil)))
      (pss_one (ps_ret (pe_lc (own := [("_law_turn", 3)]) (g := (gName 3)) (tt := tYes)  rfl sc__law_mixed.nd (pi_range1 (by rfl) T.n_range (pa_cons (pe_callB call_len_seq (by rfl) T.n_len (by decide +kernel) (pa_cons (pv 1) pa_nil)) pa_nil)) (blkOk_by (own := [("_law_turn", 3)]) (N := names__law_mixed) (sc := defScope s__law_mixed) (by decide +kernel)) (fun _ _ _ _ _ => (pg_name (i := 3) sc__law_mixed.nd rfl (Or.inl rfl))) (fun _ _ _ _ _ => pts_nil) (fun _ _ _ _ _ => by apply My.pe_eq; (case h => exact (pe_bm PySem.F.plainAttrs_list PySem.F.slot_list_pop PySem.F.type_list_pop mt_popAt (pv 2) (pa_cons (pe_call G__law_grab (hr.mono (by decide)) (by rfl) T.g__law_grab T.f__law_grab.kp (b__law_grab T) .nil pass0 (pa_cons (pv 0) (pa_cons (pe_callB call_len_seq (by rfl) T.n_len (by decide +kernel) (pa_cons (pv 2) pa_nil)) pa_nil))) pa_nil))); all_goals (first | exact rfl | (dsimp only [L2.Cx.blk, L2.Cx.nox, L2.cxOf]; done) | (dsimp only [L2.Cx.blk, L2.Cx.nox, L2.cxOf]; exact rfl))))))), ?_⟩
    refine ⟨_, rfl, p, xs, rfl, .inl hs, fun W hW => ?_⟩
    have hWb : W ≠ b := bag.ne hW
    have e0 : Same H (upd H W (.lst xs)) := same_new hW
    have bag0 := bag.same e0
    have hW0 : (upd H W (.lst xs)) W = some (.lst xs) := upd_same
    generalize upd H W (.lst xs) = H0 at e0 bag0 hW0
    dsimp only [gName, tRet, tCB, tCons, tNil]
    rw [tLc_eq]
    refine ⟨_, rfl, p, xs, rfl, .inl (same_l e0 hs), _, rfl, by omega, by omega, ?_⟩
    rw [Int.toNat_natCast]
    intro D hD
    have hDH : H D = none := none_of_same e0 hD
    have hDb : D ≠ b := bag.ne hDH
    have hDW : D ≠ W := fun e => by subst e; rw [hW0] at hD; cases hD
    refine lc_it (walk_range (lo := 0) (n := xs.length)) (fun k H' => k ≤ xs.length ∧ But b H H' ∧ Bag H' b ∧ ∃ ys rest : List V, ys.length = k ∧ rest.length = xs.length - k ∧ (ys ++ rest).Perm xs ∧ H' D = some (.lst ys) ∧ H' W = some (.lst rest))
      ⟨Nat.zero_le _, (But.of e0).trans (But.of (same_new hD)), bag0.upd hD, [], xs, rfl, by simp, by simp, upd_same, by rw [upd_ne (Ne.symm hDW)]; exact hW0⟩ (fun _ _ _ _ => trivial) ?_ ?_
    · rintro k x H1 H2 hk ⟨_, e1, b1, ys, rest, hy, hr2, hp, hL, hR⟩ ⟨rfl, _⟩
      refine ⟨rfl, yes_of ?_⟩
      have hsR : SqL K H2 W rest := .inl (.inl hR)
      refine ⟨_, rfl, ?_, _, rfl, _, rfl, W, rest, rfl, .inl hsR, b, _, rfl, b1, by omega, log_small (by omega), fun r H3 h0 h1 e3 b3 => ?_⟩
      · exact .inl ⟨rfl, rest, hsR⟩
      have hR3 := e3 W _ hR hWb
      have hL3 := e3 D _ hL hDb
      have hkr : r.toNat < rest.length := by omega
      refine ⟨W, rest, r, r.toNat, rest[r.toNat], rfl, rfl, hR3, by omega, by omega, ?_, List.getElem?_eq_getElem hkr, ?_⟩
      · have z : ¬ r < 0 := by omega
        have z1 : decide (0 ≤ r) = true := decide_eq_true h0
        have z2 : decide (r < (rest.length : Int)) = true := decide_eq_true h1
        simp only [seqIndex?, if_neg z, z1, z2, Bool.and_self, if_true]
      · have hL4 : (upd H3 W (.lst (rest.eraseIdx r.toNat))) D = some (.lst ys) := by rw [upd_ne hDW]; exact hL3
        refine ⟨ys, hL4, Evl.sz_lt (by omega), hk, ?_, ?_, ys ++ [rest[r.toNat]], rest.eraseIdx r.toNat, by simp [hy], ?_, perm_pop ys rest _ hkr hp, upd_same, ?_⟩
        · intro a o h hn
          rw [upd_ne (ne_of_none h hDH), upd_ne (ne_of_none h hW)]
          exact e3 a o (e1 a o h hn) hn
        · obtain ⟨x1, y1, z1, hb, r1⟩ := b3
          exact ⟨x1, y1, z1, by rw [upd_ne (Ne.symm hDb), upd_ne (Ne.symm hWb)]; exact hb, r1⟩
        · rw [List.length_eraseIdx, if_pos hkr]; omega
        · rw [upd_ne (Ne.symm hDW), upd_same]
    · rintro H1 ⟨_, e1, b1, ys, rest, hy, hr2, hp, hL, hR⟩
      have e : rest = [] := by
        cases rest with
        | nil => rfl
        | cons _ _ => simp at hr2
      subst e
      rw [List.append_nil] at hp
      exact q D ys H1 hp e1 b1 hDb hDH hL
end
end K06

set_option maxHeartbeats 1000000
namespace K06
open PySem PySem.Spec PyProof.Rows L2 My ZN
section
variable {P : Program} {w : World} {K : PySem.W.Frag} {mg : Str → Option Value} {base : Heap} {A : Adr}
theorem log_le {x : Int} (h : x.natAbs < 1000) : x.natAbs.log2 < 9000 := log_of (Nat.lt_trans h (Nat.lt_trans (by decide : 1000 < 2 ^ 10) (Nat.pow_lt_pow_right (by decide) (by decide))))
theorem step_ne {n : Nat} (h4 : N4 n) {ra r2 : Int} (h0 : 0 ≤ ra) (h1 : ra < n) (h2 : 0 ≤ r2) (h3 : r2 < n - 1) : 0 ≤ (ra + 1 + r2).fmod n ∧ (ra + 1 + r2).fmod n < n ∧ (ra + 1 + r2).fmod n ≠ ra := by
  rw [Int.fmod_eq_emod_of_nonneg _ (by omega)]
  rcases h4 with rfl | rfl | rfl <;> omega
theorem ixN_of {l a : Nat} (h : a < l) : ixN l (a : Nat) = some a := by
  simp [ixN]
  omega
theorem oks_pm : ∀ ys : List V, (∀ y ∈ ys, ∃ n : Int, y = .int n ∧ (n = 1 ∨ n = -1)) → ∃ ns : List Int, ys = ns.map V.int ∧ Ones ns
  | [], _ => ⟨[], rfl, fun _ h => absurd h List.not_mem_nil⟩
  | y :: ys, h => by
    obtain ⟨n, rfl, hn⟩ := h y List.mem_cons_self
    obtain ⟨ns, rfl, hs⟩ := oks_pm ys fun y' hy => h y' (List.mem_cons_of_mem _ hy)
    refine ⟨n :: ns, rfl, fun m hm => ?_⟩
    rcases List.mem_cons.mp hm with h | h
    · rw [h]; exact hn
    · exact hs m h
def unitR (n i : Nat) : List Int := (List.range n).map fun j => if i = j then 1 else 0
theorem idM_rows (n : Nat) : idM n = (List.range n).map (unitR n) := rfl
def sp_matrix (K : PySem.W.Frag) : Sp := fun vs H Q _ => ∃ (b : Addr) (n m : Nat), vs = [.ref b, .int (n : Nat), .int (m : Nat)] ∧ Bag H b ∧ N4 n ∧ m < 20 ∧ ∀ v U H', MtAt K H' true v U → Un n U → Ab (3 ^ m) U → But b H H' → Bag H' b → Q v H'
theorem ok__law_matrix (T : Txt K mg A) : FnOk P w K mg base CX0 3 A.a__law_matrix A.d__law_matrix ["_law_bag_here", "_law_size_here", "_law_most"] (sp_matrix K) := by
  have G__law_grab : FnOk P w K mg base CX0 1 A.a__law_grab A.d__law_grab ["_law_bag_here", "_law_total"] sp_grab := ok__law_grab T
  have G__law_one_of : FnOk P w K mg base CX0 2 A.a__law_one_of A.d__law_one_of ["_law_bag_here", "_law_items"] (sp_one_of K) := ok__law_one_of T
  have G__law_mixed : FnOk P w K mg base CX0 2 A.a__law_mixed A.d__law_mixed ["_law_bag_here", "_law_items"] (sp_mixed K) := ok__law_mixed T
  refine T.f__law_matrix.ok sc__law_matrix (fun vs H Q E h => ?_) (fun cdv B out t H vs Q E hr h => ?_)
  · obtain ⟨b, n, m, rfl, _⟩ := h
    rfl
  · obtain ⟨b, n, m, rfl, bag, h4, hm, q⟩ := h
    refine ⟨_, (pss_cons (ps_setLc (i := 3) (own := [("_law_at", 5)]) (g := (gName 5)) (tt := tYes)  rfl sc__law_matrix.nd rfl rfl (sw_true rfl rfl rfl (by decide +kernel)) (pi_range1 (by rfl) T.n_range (pa_cons (pv 1) pa_nil)) (blkOk_by (own := [("_law_at", 5)]) (N := names__law_matrix) (sc := defScope s__law_matrix) (by decide +kernel)) (fun _ _ _ _ _ => (pg_name (i := 5) sc__law_matrix.nd rfl (Or.inr rfl))) (fun _ _ _ _ _ => pts_nil) (fun _ _ _ _ _ => by apply My.pe_eq; (case h => exact (by exact (pe_lc (own := [("_law_to", 4)]) (g := (gName 4)) (tt := tYes)  rfl sc__law_matrix.nd (pi_range1 (by rfl) T.n_range (pa_cons (pv 1) pa_nil)) (by (exact L2.blkOk_by (by kernel_rfl))) (fun _ _ _ _ _ => (pg_name (i := 4) sc__law_matrix.nd rfl (Or.inl rfl))) (fun _ _ _ _ _ => pts_nil) (fun _ _ _ _ _ => by apply My.pe_eq; (case h => exact (pe_callTy call_int1 (by rfl) T.n_int (by decide +kernel) (pa_cons (pe_cmpR op_eq (pv 5) (pv 4) (nomark _)) pa_nil))); all_goals (first | exact rfl | (dsimp only [L2.Cx.blk, L2.Cx.nox, L2.cxOf]; done) | (dsimp only [L2.Cx.blk, L2.Cx.nox, L2.cxOf]; exact rfl)))))); all_goals (first | exact rfl | (dsimp only [L2.Cx.blk, L2.Cx.nox, L2.cxOf]; done) | (dsimp only [L2.Cx.blk, L2.Cx.nox, L2.cxOf]; exact rfl))))
      (pss_cons (ps_for PassesOwn.never rfl (pi_range1 (by rfl) T.n_range (pa_cons (pe_call G__law_grab (hr.mono (by decide)) (by rfl) T.g__law_grab T.f__law_grab.kp (b__law_grab T) .nil pass0 (pa_cons (pv 0) (pa_cons (pe_op op_add (pv 2) pe_int) pa_nil))) pa_nil)) (pg_name (i := 6) sc__law_matrix.nd rfl (Or.inl rfl)) (pss_cons (ps_set (i := 5) sc__law_matrix.nd rfl (Or.inl rfl) (pe_call G__law_grab (hr.mono (by decide)) (by rfl) T.g__law_grab T.f__law_grab.kp (b__law_grab T) .nil pass0 (pa_cons (pv 0) (pa_cons (pv 1) pa_nil))))
      (pss_cons (ps_set (i := 4) sc__law_matrix.nd rfl (Or.inl rfl) (pe_op op_modN (pe_callTy call_int1 (by rfl) T.n_int (by decide +kernel) (pa_cons (pe_op op_add (pe_op op_add (pv 5) pe_int) (pe_call G__law_grab (hr.mono (by decide)) (by rfl) T.g__law_grab T.f__law_grab.kp (b__law_grab T) .nil pass0 (pa_cons (pv 0) (pa_cons (pe_op op_sub (pv 1) pe_int) pa_nil)))) pa_nil)) (pv 1)))
      (pss_cons (ps_set (i := 7) sc__law_matrix.nd rfl (Or.inr rfl) (pe_call G__law_one_of (hr.mono (by decide)) (by rfl) T.g__law_one_of T.f__law_one_of.kp (b__law_one_of T) .nil pass0 (pa_cons (pv 0) (pa_cons (pe_lst (pa_cons pe_int (pa_cons (pe_un un_neg pe_int) (pa_cons pe_int (pa_cons (pe_un un_neg pe_int) (pa_cons pe_int pa_nil)))))) pa_nil))))
      (pss_one (ps_asg (pe_lc (own := [("_law_one", 8), ("_law_other", 9)]) (g := (gTup K 2 (gCons (gName 8) (gCons (gName 9) gNil)))) (tt := tYes)  rfl sc__law_matrix.nd (ZN.pi_zip2 (by rfl) T.n_zip (pa_cons (pe_ix ix_seq (pv 3) (pv 5) (fun _ _ => rfl)) (pa_cons (pe_ix ix_seq (pv 3) (pv 4) (fun _ _ => rfl)) pa_nil))) (blkOk_by (own := [("_law_one", 8), ("_law_other", 9)]) (N := names__law_matrix) (sc := defScope s__law_matrix) (by decide +kernel)) (fun _ _ _ _ _ => (pg_tup (by rfl) (pgs_cons (pg_name (i := 8) sc__law_matrix.nd rfl (Or.inl rfl)) (pgs_cons (pg_name (i := 9) sc__law_matrix.nd rfl (Or.inl rfl)) pgs_nil)))) (fun _ _ _ _ _ => pts_nil) (fun _ _ _ _ _ => by apply My.pe_eq; (case h => exact (pe_op op_add (pv 8) (pe_op op_mul (pv 7) (pv 9)))); all_goals (first | exact rfl | (dsimp only [L2.Cx.blk, L2.Cx.nox, L2.cxOf]; done) | (dsimp only [L2.Cx.blk, L2.Cx.nox, L2.cxOf]; exact rfl)))) (pg_sub (pv 3) (pv 5) set_list)))))))
      (pss_cons (ps_setLc (i := 10) (own := [("_law_turn", 6)]) (g := (gName 6)) (tt := tYes)  rfl sc__law_matrix.nd rfl rfl (sw_true rfl rfl rfl (by decide +kernel)) (pi_range1 (by rfl) T.n_range (pa_cons (pv 1) pa_nil)) (blkOk_by (own := [("_law_turn", 6)]) (N := names__law_matrix) (sc := defScope s__law_matrix) (by decide +kernel)) (fun _ _ _ _ _ => (pg_name (i := 6) sc__law_matrix.nd rfl (Or.inl rfl))) (fun _ _ _ _ _ => pts_nil) (fun _ _ _ _ _ => by apply My.pe_eq; (case h => exact (pe_op op_sub pe_int (pe_op op_mul pe_int (pe_call G__law_grab (hr.mono (by decide)) (by rfl) T.g__law_grab T.f__law_grab.kp (b__law_grab T) .nil pass0 (pa_cons (pv 0) (pa_cons pe_int pa_nil)))))); all_goals (first | exact rfl | (dsimp only [L2.Cx.blk, L2.Cx.nox, L2.cxOf]; done) | (dsimp only [L2.Cx.blk, L2.Cx.nox, L2.cxOf]; exact rfl))))
      (pss_one (ps_ret (pe_callTy call_tuple_of (by rfl) T.n_tuple (by decide +kernel) (pa_cons (pe_lc (own := [("_law_sign", 12), ("_law_row", 13)]) (g := (gTup K 2 (gCons (gName 12) (gCons (gName 13) gNil)))) (tt := tYes)  rfl sc__law_matrix.nd (ZN.pi_zip2 (by rfl) T.n_zip (pa_cons (pv 10) (pa_cons (pe_call G__law_mixed (hr.mono (by decide)) (by rfl) T.g__law_mixed T.f__law_mixed.kp (b__law_mixed T) .nil pass0 (pa_cons (pv 0) (pa_cons (pv 3) pa_nil))) pa_nil))) (blkOk_by (own := [("_law_sign", 12), ("_law_row", 13)]) (N := names__law_matrix) (sc := defScope s__law_matrix) (by decide +kernel)) (fun _ _ _ _ _ => (pg_tup (by rfl) (pgs_cons (pg_name (i := 12) sc__law_matrix.nd rfl (Or.inr rfl)) (pgs_cons (pg_name (i := 13) sc__law_matrix.nd rfl (Or.inl rfl)) pgs_nil)))) (fun _ _ _ _ _ => pts_nil) (fun _ _ _ _ _ => by apply My.pe_eq; (case h => exact (pe_callTy call_tuple_of (by rfl) T.n_tuple (by decide +kernel) (pa_cons (by exact (pe_lc (own := [("_law_number_here", 11)]) (g := (gName 11)) (tt := tYes)  rfl sc__law_matrix.nd (pi_list (pv 13)) (by (exact L2.blkOk_by (by kernel_rfl))) (fun _ _ _ _ _ => (pg_name (i := 11) sc__law_matrix.nd rfl (Or.inl rfl))) (fun _ _ _ _ _ => pts_nil) (fun _ _ _ _ _ => by apply My.pe_eq; (case h => exact (pe_op op_mul (pv 12) (pv 11))); all_goals (first | exact rfl | (dsimp only [L2.Cx.blk, L2.Cx.nox, L2.cxOf]; done) | (dsimp only [L2.Cx.blk, L2.Cx.nox, L2.cxOf]; exact rfl))))) pa_nil))); all_goals (first | exact rfl | (dsimp only [L2.Cx.blk, L2.Cx.nox, L2.cxOf]; done) | (dsimp only [L2.Cx.blk, L2.Cx.nox, L2.cxOf]; exact rfl)))) pa_nil))))))), ?_⟩
    have hn2 := h4.two
    have hn4 := h4.four
    have n62 : ((n : Nat) : Int) < 2 ^ 62 := by omega
    dsimp only [gName, tSeq, tAsg, tCB, tCons, tNil]
    rw [tLc_eq]
    refine ⟨_, rfl, _, rfl, by omega, n62, ?_⟩
    rw [Int.toNat_natCast]
    unfold LcAt
    refine comp_bj (b := b) (walk_range (lo := 0) (n := n)) (fun k x => x = .int (k : Nat)) (fun k H1 x H2 hy => ⟨hy.1, by rw [hy.2]; show V.int (0 + (k : Int)) = _; rw [Int.zero_add]⟩) bag (LmAt b (unitR n)) (fun _ _ _ _ e h => h.mono e) (by omega) (fun _ _ _ => trivial) (fun R q0 => q0) (fun x => rfl) ?_ ?_
    · rintro k x D acc H1 Q' hk rfl e1 b1 hD hL hq
      rw [tLc_eq]
      refine ⟨_, rfl, _, rfl, by omega, n62, ?_⟩
      rw [Int.toNat_natCast]
      unfold LcAt
      refine comp_rng (K := K) (walk_range (lo := 0) (n := n)) (fun j => .int (if k = j then 1 else 0)) (by omega) (fun _ _ => trivial) (fun R q0 => q0) (fun x => rfl) ?_ ?_
      · intro j D2 acc2 H2 A2 hj e2 hD2 hL2 hA2
        rw [Int.zero_add]
        refine ⟨_, rfl, _, rfl, rfl, Or.inr ⟨_, rfl, ?_⟩⟩
        have ev : (if decide (V.int (k : Nat) = V.int (j : Nat)) = true then (1 : Int) else 0) = if k = j then 1 else 0 := by
          by_cases c : k = j
          · subst c; simp
          · have c' : ¬ ((k : Int) = (j : Int)) := int_ne c
            simp [c, c']
        show A2 (V.int (if decide (V.int (k : Nat) = V.int (j : Nat)) = true then (1 : Int) else 0)) H2
        rw [ev]
        exact hA2 _ _ (Same.refl _) fun u => .int _
      · intro D2 zs H2 e2 hD2 hL2 hj
        have hj2 : JdAll K H2 zs ((unitR n k).map PyData.int) := by simpa [unitR, List.map_map, Function.comp_def] using hj
        rw [jd_ints_inv _ _ hj2] at hL2
        refine hq _ H2 (But.of e2) (b1.same e2) fun u => ⟨D2, rfl, b1.ne hD2, ?_⟩
        rw [upd_ne (fun e => by subst e; rw [hL] at hD2; cases hD2)]
        exact hL2
    · intro D ys H1 e1 b1 hDb hD hl hok hL
      have hLL : LL b H1 D ys (idM n) := by
        rw [idM_rows]
        refine lm_all hDb hL hl hok fun k t hk e => ?_
        subst e
        obtain ⟨t', h1, h2, h3⟩ := hok k _ hk
        cases h1
        rw [hL] at h3
        have e : ys = irow (unitR n k) := by simpa using h3
        rw [e] at hk
        obtain ⟨_, z⟩ := irow_get' hk
        cases z
      have hU : Un n (idM n) := Un.id (by omega) (by omega)
      have hA : Ab (3 ^ 0) (idM n) := Ab.id (by omega) (by omega)
      refine ⟨_, rfl, _, rfl, _, _, rfl, rfl, b, _, rfl, b1, by omega, log_le (by omega), fun rr H2 r0 r1 e2 b2 => ?_⟩
      refine ⟨_, rfl, by omega, by omega, ?_⟩
      refine for_it (walk_range (lo := 0) (n := rr.toNat)) (fun i σ H' => i ≤ rr.toNat ∧ But b H H' ∧ Bag H' b ∧ ∃ (zs : List V) (N : List (List Int)) (x4 x5 x6 x7 : Option V), LL b H' D zs N ∧ Un n N ∧ Ab (3 ^ i) N ∧
        σ = [some (.ref b), some (.int (n : Nat)), some (.int (m : Nat)), some (.ref D), x4, x5, x6, x7, none, none, none, none, none, none])
        ⟨Nat.zero_le _, e1.trans e2, b2, ys, idM n, none, none, none, none, hLL.but e2, hU, hA, rfl⟩ (fun _ _ _ _ _ => trivial) ?_ ?_
      · rintro i x σ H3 H4 hi ⟨_, e3, b3, zs, N, x4, x5, x6, x7, hLLi, hUi, hAi, rfl⟩ ⟨rfl, rfl⟩
        refine ⟨_, rfl, _, rfl, b, _, rfl, b3, by omega, log_le (by omega), fun ra H5 ra0 ra1 e5 b5 => ?_⟩
        obtain ⟨a, rfl⟩ := Int.eq_ofNat_of_zero_le ra0
        refine ⟨_, rfl, _, _, rfl, rfl, _, rfl, _, rfl, _, _, rfl, rfl, b, _, rfl, b5, by omega, log_le (by omega), fun r2 H6 r20 r21 e6 b6 => ⟨_, _, rfl, rfl, Or.inl ⟨_, rfl, _, rfl, _, _, rfl, rfl, by omega, ?_⟩⟩⟩
        obtain ⟨z0, z1, z2⟩ := step_ne h4 ra0 ra1 r20 r21
        dsimp only [gName, tSeq, tAsg]
        generalize ((a : Int) + 1 + r2).fmod (n : Int) = to at z0 z1 z2 ⊢
        obtain ⟨c, rfl⟩ := Int.eq_ofNat_of_zero_le z0
        have han : a < n := by omega
        have hcn : c < n := by omega
        have hac : a ≠ c := fun e => z2 (by omega)
        refine ⟨_, rfl, _, rfl, _, rfl, by show 5 ≤ sizeLine; decide, fun p hp => ⟨b, p, _, rfl, b6.upd hp, b6.ne hp, .inl (.inl upd_same), by simp, by simp, fun v H7 hv e7 b7 => ?_⟩⟩
        obtain ⟨mm, rfl, hmm⟩ : ∃ mm : Int, v = .int mm ∧ mm.natAbs ≤ 2 := by
          simp only [List.mem_cons, List.mem_nil_iff, or_false] at hv
          rcases hv with rfl | rfl | rfl | rfl | rfl <;> exact ⟨_, rfl, by decide⟩
        have e37 : But b _ H7 := e5.trans (e6.trans ((But.of (same_new hp)).trans e7))
        have hLL7 := hLLi.but e37
        have hNn := hUi.1.len
        obtain ⟨ta, hta, htab, htaD, hLa⟩ := hLL7.get (j := a) (by omega)
        obtain ⟨tc, htc, htcb, htcD, hLc⟩ := hLL7.get (j := c) (by omega)
        have la := row_of hUi.1 han
        have lc := row_of hUi.1 hcn
        have hsD : SqL K H7 D zs := .inl (.inl hLL7.2.1)
        have hsa : SqL K H7 ta (irow (N.getD a [])) := .inl (.inl hLa)
        have hsc : SqL K H7 tc (irow (N.getD c [])) := .inl (.inl hLc)
        refine comp_pair (K := K) (walk_zip2 (k1 := false) (k2 := false) (a := ta) (b := tc) (xs := irow (N.getD a [])) (ys := irow (N.getD c [])) rfl) (fun k => .int ((N.getD a []).getD k 0 + mm * (N.getD c []).getD k 0)) (by simp only [irow, List.length_map]; omega)
          (fun H' e => ⟨same_l e hsa, same_l e hsc⟩) (fun R r => ⟨_, rfl, _, rfl, ix_k (k := false) hsD hta ⟨_, rfl, _, rfl, ix_k (k := false) hsD htc ⟨false, false, ta, tc, _, _, rfl, hsa, hsc, r⟩⟩⟩) (fun x y => rfl) ?_ ?_
        · intro k x y D2 acc2 H8 A2 hk e8 hD2 hL2 hx hy hA2
          obtain ⟨hk1, rfl⟩ := irow_get' hx
          obtain ⟨hk2, rfl⟩ := irow_get' hy
          exact ⟨_, rfl, _, rfl, _, rfl, _, _, rfl, rfl, Or.inl ⟨by omega, by omega⟩, _, _, rfl, rfl, hA2 _ _ (Same.refl _) fun u => .int _⟩
        · intro D8 ws H8 e8 hD8 hL8 hj
          rw [zipW_data (fun x y => x + mm * y)] at hj
          rw [jd_ints_inv _ _ hj] at hL8
          have hD8b : D8 ≠ b := b7.ne hD8
          have hD8D : D8 ≠ D := fun e => by subst e; rw [hLL7.2.1] at hD8; cases hD8
          have hLL8 := hLL7.but (But.of e8)
          have hzl : a < zs.length := by rw [hLL7.2.2.1]; omega
          refine ⟨_, rfl, _, rfl, D, zs, _, a, rfl, rfl, hLL8.2.1, ixN_of hzl, ?_⟩
          have put := hLL8.put (t := D8) (r := addR mm (N.getD a []) (N.getD c [])) hD8b hD8D hL8 (i := a)
          refine ⟨hi, ?_, ?_, zs.set a (.ref D8), opR N a c mm, _, _, _, _, put, hUi.op h4 han hcn hac mm, ?_, rfl⟩
          · intro x o h hn
            rw [upd_ne (ne_of_none h hD)]
            exact (e3.trans (e37.trans (But.of e8))) x o h hn
          · obtain ⟨x1, y1, z1, hb, r1⟩ := b7.same e8
            exact ⟨x1, y1, z1, by rw [upd_ne (Ne.symm hDb)]; exact hb, r1⟩
          · refine (hAi.op a c mm).mono ?_
            have : mm.natAbs * 3 ^ i ≤ 2 * 3 ^ i := Nat.mul_le_mul_right _ hmm
            rw [Nat.pow_succ]
            omega
      · rintro σ H3 ⟨_, e3, b3, zs, N, x4, x5, x6, x7, hLLi, hUi, hAi, rfl⟩
        have hrm : rr.toNat ≤ m := by omega
        dsimp only [gName, tSeq, tAsg]
        rw [tLc_eq]
        refine ⟨_, rfl, _, rfl, by omega, n62, ?_⟩
        rw [Int.toNat_natCast]
        unfold LcAt
        refine comp_bj (b := b) (walk_range (lo := 0) (n := n)) (fun k x => True) (fun k H1 x H2 hy => ⟨hy.1, trivial⟩) b3 (fun _ H y => ∃ x : Int, y = .int x ∧ (x = 1 ∨ x = -1)) (fun _ _ _ _ e h => h) (by omega) (fun _ _ _ => trivial) (fun R q0 => q0) (fun x => rfl) ?_ ?_
        · intro k x D2 acc H4 Q' hk _ e4 b4 hD2 hL2 hq
          exact ⟨_, rfl, b, _, rfl, b4, by omega, log_le (by decide), fun r H5 r0 r1 e5 b5 => ⟨_, _, rfl, rfl, Or.inl ⟨by decide, by decide⟩, _, _, rfl, rfl, hq _ H5 e5 b5 fun u => ⟨_, rfl, by omega⟩⟩⟩
        · intro D2 ws H4 e4 b4 hD2b hD2 hwl hwok hL2
          obtain ⟨ss, rfl, hss⟩ := oks_pm ws fun y hy => by
            obtain ⟨k2, hk2, rfl⟩ := List.getElem_of_mem hy
            exact hwok k2 _ (List.getElem?_eq_getElem hk2)
          have hsl : ss.length = n := by simpa using hwl
          have hLL4 := hLLi.but e4
          have hzn : zs.length = n := hLL4.2.2.1.trans hUi.1.len
          dsimp only [tRet, tCB, tCall, tCons, tNil]
          rw [tLc_eq]
          refine ⟨_, rfl, _, rfl, _, rfl, b, D, zs, rfl, b4, .inl (.inl hLL4.2.1), by omega, fun D3 ys3 H5 hp e5 b5 hD3b hD3 hL3 => ?_⟩
          have hs2 : SqL K H5 D2 (irow ss) := .inl (.inl (e5 D2 _ hL2 hD2b))
          have hs3 : SqL K H5 D3 ys3 := .inl (.inl hL3)
          refine ⟨false, false, D2, D3, irow ss, ys3, rfl, hs2, hs3, ?_⟩
          obtain ⟨M, hMN, hMl, hMr⟩ := (hLL4.but e5).perm hp
          have hUM := hUi.perm h4 hMN
          have hMn := hUM.1.len
          unfold LcAt
          refine comp_pair (K := K) (walk_zip2 (k1 := false) (k2 := false) (a := D2) (b := D3) (xs := irow ss) (ys := ys3) (n := n) (by simp only [irow, List.length_map]; omega)) (fun k => rowD ((M.getD k []).map (ss.getD k 0 * ·))) (by omega)
            (fun H' e => ⟨same_l e hs2, same_l e hs3⟩) (fun R r => r) (fun x y => rfl) ?_ ?_
          · intro k x y D6 acc H6 A1 hk e6 hD6 hL6 hx hy hA1
            obtain ⟨hk1, rfl⟩ := irow_get' hx
            have hkM : k < M.length := by omega
            obtain ⟨t1, ht1, hLt⟩ := hMr k M[k] (List.getElem?_eq_getElem hkM)
            have hy' : ys3[k]? = some y := hy
            obtain rfl : y = .ref t1 := by rw [hy'] at ht1; exact Option.some.inj ht1
            have eM : M.getD k [] = M[k] := by simp [hkM]
            rw [eM] at hA1
            have hrl : M[k].length = n := hUM.1.row _ (List.getElem_mem hkM)
            have hst : SqL K H6 t1 (irow M[k]) := .inl (.inl (e6 _ _ hLt))
            have hsg := hss _ (mem_getD hk1)
            generalize M[k] = row at *
            dsimp only [tCB, tCons, tNil]
            refine comp_one (K := K) (walk_list (a := t1) (xs := irow row)) (fun c => .int (ss.getD k 0 * row.getD c 0)) (by simp only [irow, List.length_map]; omega) (fun H' e => same_l e hst) (fun R r => ⟨_, rfl, t1, rfl, ⟨_, hst⟩, r⟩) (fun x => rfl) ?_ ?_
            · intro c z D7 acc7 H7 A2 hc e7 hD7 hL7 hz hA2
              obtain ⟨hc1, rfl⟩ := irow_get' hz
              exact ⟨_, rfl, _, rfl, _, _, rfl, rfl, Or.inl (by rcases hsg with h | h <;> rw [h] <;> decide), hA2 _ _ (Same.refl _) fun u => .int _⟩
            · intro D7 vs7 H7 e7 hD7 hL7 hj
              rw [map_getD_data (fun x => ss.getD k 0 * x)] at hj
              rw [jd_ints_inv _ _ hj] at hL7
              exact ⟨D7, _, rfl, .inl ⟨.inl (.inl hL7), fun l hl => hA1 _ _ (e7.trans (same_new hl)) fun u => row_new (e7 _ _ hL6) hl⟩⟩
          · intro D6 vs6 H6 e6 hD6 hL6 hj
            have e : (List.range n).map (fun k => rowD ((M.getD k []).map (ss.getD k 0 * ·))) = (sgR ss M).map rowD := by
              apply List.ext_getElem
              · simp [sgR]; omega
              · intro k h1 h2
                simp only [List.length_map, List.length_range] at h1
                have hkM : k < M.length := by omega
                have hks : k < ss.length := by omega
                simp [sgR, hkM, hks]
            rw [e] at hj
            refine ⟨D6, _, rfl, .inl ⟨.inl (.inl hL6), fun l hl => ?_⟩⟩
            have e67 := e6.trans (same_new (o := .tup vs6) hl)
            exact q _ (sgR ss M) _ ⟨l, vs6, rfl, .inl (.inl upd_same), rows_mono (same_new hl) (jd_rows hj)⟩ (hUM.sg h4 hsl hss) (((hAi.perm hMN).sg hss).mono (Nat.pow_le_pow_right (by decide) hrm))
              (e3.trans (e4.trans (e5.trans (But.of e67)))) (b5.same e67)
end
end K06

set_option maxHeartbeats 1000000
namespace K06
open PySem PySem.Spec PyProof.Rows L2 My ZN
section
variable {P : Program} {w : World} {K : PySem.W.Frag} {mg : Str → Option Value} {base : Heap} {A : Adr}
def sp_law_det (K : PySem.W.Frag) : Sp := fun vs H Q _ => ∃ a kk ls M n, vs = [.ref a] ∧ SqL K H a ls ∧ RowsK K H kk ls M ∧ Sq n M ∧ n ≤ 4 ∧ Ab (2 ^ 201) M ∧ ∀ H', Same H H' → Q (.int (lawDet M)) H'
theorem ok__law_determinant (T : Txt K mg A) : FnOk P w K mg base CX0 1 A.a__law_determinant A.d__law_determinant ["_law_rows"] (sp_law_det K) := by
  refine T.f__law_determinant.ok sc__law_determinant (fun vs H Q E h => ?_) (fun cdv B out t H vs Q E hr h => ?_)
  · obtain ⟨a, kk, ls, M, n, rfl, _⟩ := h
    rfl
  · obtain ⟨a, kk, ls, M, n, rfl, ha, hR, sM, h4, hb, q⟩ := h
    refine ⟨_, (pss_cons (ps_asg (pe_tup (pa_cons (pe_lc (own := [("_law_row", 4)]) (g := (gName 4)) (tt := tYes)  rfl sc__law_determinant.nd (pi_list (pv 0)) (blkOk_by (own := [("_law_row", 4)]) (N := names__law_determinant) (sc := defScope s__law_determinant) (by decide +kernel)) (fun _ _ _ _ _ => (pg_name (i := 4) sc__law_determinant.nd rfl (Or.inl rfl))) (fun _ _ _ _ _ => pts_nil) (fun _ _ _ _ _ => by apply My.pe_eq; (case h => exact (pe_callTy call_list_of (by rfl) T.n_list (by decide +kernel) (pa_cons (pv 4) pa_nil))); all_goals (first | exact rfl | (dsimp only [L2.Cx.blk, L2.Cx.nox, L2.cxOf]; done) | (dsimp only [L2.Cx.blk, L2.Cx.nox, L2.cxOf]; exact rfl)))) (pa_cons pe_int (pa_cons pe_int pa_nil)))) (pg_tup (by rfl) (pgs_cons (pg_name (i := 1) sc__law_determinant.nd rfl (Or.inr rfl)) (pgs_cons (pg_name (i := 2) sc__law_determinant.nd rfl (Or.inl rfl)) (pgs_cons (pg_name (i := 3) sc__law_determinant.nd rfl (Or.inr rfl)) pgs_nil)))))
      (pss_cons (ps_for PassesOwn.never rfl (pi_range1 (by rfl) T.n_range (pa_cons (pe_callB call_len_seq (by rfl) T.n_len (by decide +kernel) (pa_cons (pv 1) pa_nil)) pa_nil)) (pg_name (i := 5) sc__law_determinant.nd rfl (Or.inr rfl)) (pss_cons (ps_setLc (i := 6) (own := [("_law_place", 7)]) (g := (gName 7))  rfl sc__law_determinant.nd rfl rfl (sw_true rfl rfl rfl (by decide +kernel)) (pi_range2 (by rfl) T.n_range (pa_cons (pv 5) (pa_cons (pe_callB call_len_seq (by rfl) T.n_len (by decide +kernel) (pa_cons (pv 1) pa_nil)) pa_nil))) (blkOk_by (own := [("_law_place", 7)]) (N := names__law_determinant) (sc := defScope s__law_determinant) (by decide +kernel)) (fun _ _ _ _ _ => (pg_name (i := 7) sc__law_determinant.nd rfl (Or.inl rfl))) (fun _ _ _ _ _ => by apply My.pts_eq; (case h => exact (pts_one (pt_cmpR op_ne (pe_ix ix_seq (pe_ix ix_seq (pv 1) (pv 7) (fun _ _ => rfl)) (pv 5) (fun _ _ => rfl)) pe_int (nomark _)))); all_goals (first | exact rfl | (dsimp only [L2.Cx.blk, L2.Cx.nox, L2.cxOf]; done) | (dsimp only [L2.Cx.blk, L2.Cx.nox, L2.cxOf]; exact rfl))) (fun _ _ _ _ _ => (pv 7)))
      (pss_cons (ps_if (pt_cmpR (op_eqD hr.units) (pv 6) (pe_lst pa_nil) (nomark _)) (pss_one (ps_ret pe_int)) pss_nil)
      (pss_cons (ps_if (pt_cmpR op_ne (pe_ix ix_seq (pv 6) pe_int (fun _ _ => rfl)) (pv 5) (nomark _)) (pss_cons (ps_asg (pe_tup (pa_cons (pe_ix ix_seq (pv 1) (pe_ix ix_seq (pv 6) pe_int (fun _ _ => rfl)) (fun _ _ => rfl)) (pa_cons (pe_ix ix_seq (pv 1) (pv 5) (fun _ _ => rfl)) pa_nil))) (pg_tup (by rfl) (pgs_cons (pg_sub (pv 1) (pv 5) set_list) (pgs_cons (pg_sub (pv 1) (pe_ix ix_seq (pv 6) pe_int (fun _ _ => rfl)) set_list) pgs_nil))))
      (pss_one (ps_set (i := 2) sc__law_determinant.nd rfl (Or.inl rfl) (pe_op op_sub pe_int (pv 2))))) pss_nil)
      (pss_cons (ps_set (i := 8) sc__law_determinant.nd rfl (Or.inr rfl) (pe_ix ix_seq (pv 1) (pv 5) (fun _ _ => rfl)))
      (pss_cons (ps_for PassesOwn.never rfl (pi_range2 (by rfl) T.n_range (pa_cons (pe_op op_add (pv 5) pe_int) (pa_cons (pe_callB call_len_seq (by rfl) T.n_len (by decide +kernel) (pa_cons (pv 1) pa_nil)) pa_nil))) (pg_name (i := 7) sc__law_determinant.nd rfl (Or.inl rfl)) (pss_cons (ps_set (i := 9) sc__law_determinant.nd rfl (Or.inr rfl) (pe_ix ix_seq (pv 1) (pv 7) (fun _ _ => rfl)))
      (pss_one (ps_asg (pe_lc (own := [("_law_one", 10), ("_law_other", 11)]) (g := (gTup K 2 (gCons (gName 10) (gCons (gName 11) gNil)))) (tt := tYes)  rfl sc__law_determinant.nd (ZN.pi_zip2 (by rfl) T.n_zip (pa_cons (pv 9) (pa_cons (pv 8) pa_nil))) (blkOk_by (own := [("_law_one", 10), ("_law_other", 11)]) (N := names__law_determinant) (sc := defScope s__law_determinant) (by decide +kernel)) (fun _ _ _ _ _ => (pg_tup (by rfl) (pgs_cons (pg_name (i := 10) sc__law_determinant.nd rfl (Or.inl rfl)) (pgs_cons (pg_name (i := 11) sc__law_determinant.nd rfl (Or.inl rfl)) pgs_nil)))) (fun _ _ _ _ _ => pts_nil) (fun _ _ _ _ _ => by apply My.pe_eq; (case h => exact (pe_op op_fdivA (pe_op op_sub (pe_op op_mulW (pe_ix ix_seq (pv 8) (pv 5) (fun _ _ => rfl)) (pv 10)) (pe_op op_mulW (pe_ix ix_seq (pv 9) (pv 5) (fun _ _ => rfl)) (pv 11))) (pv 3))); all_goals (first | exact rfl | (dsimp only [L2.Cx.blk, L2.Cx.nox, L2.cxOf]; done) | (dsimp only [L2.Cx.blk, L2.Cx.nox, L2.cxOf]; exact rfl)))) (pg_sub (pv 1) (pv 7) set_list)))))
      (pss_one (ps_set (i := 3) sc__law_determinant.nd rfl (Or.inr rfl) (pe_ix ix_seq (pv 8) (pv 5) (fun _ _ => rfl))))))))))
      (pss_one (ps_ret (pe_op op_mulW (pv 2) (pv 3)))))), ?_⟩
    have hMn := sM.len
    have hnp := sM.pos
    dsimp only [tSeq, tAsg, tTup, tCons, tNil]
    refine comp_ok (walk_list (K := K) (a := a) (xs := ls)) (fun k x => ls[k]? = some x) (fun k H1 x H2 hy => hy) (LfAt fun k => M.getD k []) (fun k H1 H2 y e h => let ⟨t, h1, h2⟩ := h; ⟨t, h1, e t _ h2⟩) (by have := hR.1; omega) (fun H' e => same_l e ha) (fun R r => ⟨_, rfl, a, rfl, ⟨_, ha⟩, r⟩) (fun x => rfl) ?_ ?_
    · intro k x D acc H1 Q' hk hx e1 hD hL hq
      have hkM : k < M.length := by have := hR.1; omega
      obtain ⟨t, ht, hst⟩ := hR.get hkM
      obtain rfl : x = .ref t := by rw [hx] at ht; exact Option.some.inj ht
      refine ⟨_, rfl, t, irow (M.getD k []), rfl, by cases kk
                                                     · exact .inl (same_k e1 hst)
                                                     · exact .inr (same_k e1 hst), fun l hl => hq _ _ (same_new hl) fun u => ⟨l, rfl, ?_⟩⟩
      rw [upd_ne (fun e => by subst e; rw [hL] at hl; cases hl), upd_same]
    · intro D ys H1 e1 hD hl hok hL
      have hM0 : (List.range M.length).map (fun k => M.getD k []) = M := by
        apply List.ext_getElem
        · simp
        · intro k h1 h2; simp [h2]
      have hL0 : L0 H1 D ys M := by
        have := lf_all hL (hl.trans hR.1) hok
        rw [hM0] at this
        exact this
      refine ⟨by show 3 ≤ sizeLine; decide, fun p2 hp2 => ?_⟩
      have hL02 := hL0.mono (same_new (o := .tup [.ref D, .int 1, .int 1]) hp2)
      have e2 := e1.trans (same_new (o := .tup [.ref D, .int 1, .int 1]) hp2)
      refine ⟨p2, _, rfl, .inl (.inl upd_same), rfl, _, _, rfl, _, _, rfl, _, _, rfl, rfl, ?_⟩
      generalize upd H1 p2 (.tup [.ref D, .int 1, .int 1]) = H2 at hL02 e2 ⊢
      refine ⟨_, rfl, D, ys, rfl, .inl (.inl (.inl hL02.1)), _, rfl, by omega, by have := hL02.2.1; omega, ?_⟩
      have hyl : ys.length = n := hL02.2.1.trans hMn
      rw [hyl, Int.toNat_natCast]
      refine for_it (walk_range (lo := 0) (n := n)) (fun c σ H' => c ≤ n ∧ Same H H' ∧ ∃ (zs : List V) (L : List (List Int)) (g s : Int) (x5 x6 x7 x8 x9 : Option V), L0 H' D zs L ∧ Sq n L ∧ Ab (bnd c) L ∧ g.natAbs = 1 ∧ s ≠ 0 ∧ s.natAbs ≤ bnd c ∧ lawGo (n - c) c L g s = lawDet M ∧
        σ = [some (.ref a), some (.ref D), some (.int g), some (.int s), none, x5, x6, x7, x8, x9, none, none])
        ⟨Nat.zero_le _, e2, ys, M, 1, 1, none, none, none, none, none, hL02, sM, hb, rfl, by decide, by decide, by rw [Nat.sub_zero, ← hMn]; rfl, rfl⟩ (fun _ _ _ _ _ => trivial) ?_ ?_
      · rintro c x σ H3 H4 hc ⟨_, e3, zs, L, g, s, x5, x6, x7, x8, x9, hLi, sL, bL, hg1, hs0, hsb, hgo, rfl⟩ ⟨rfl, rfl⟩
        have hDH : H D = none := hD
        have hLn := sL.len
        have ec0 : ((0 : Int) + (c : Int)) = (c : Int) := Int.zero_add _
        dsimp only [gName, tSeq, tAsg]
        rw [ec0]
        have hsD : SqL K _ D zs := .inl (.inl hLi.1)
        have hzn : zs.length = n := hLi.2.1.trans hLn
        refine comp_eq (walk_range (lo := (c : Int)) (n := n - c)) (fun k => en L (c + k) c != 0) (fun k => .int ((c + k : Nat) : Int)) (by omega) (fun _ _ => trivial) (fun R r => ⟨_, rfl, _, rfl, D, zs, rfl, .inl hsD, _, _, rfl, ⟨by omega, by omega, by omega, by omega⟩, by
          have e : (((zs.length : Nat) : Int) - (c : Int)).toNat = n - c := by omega
          rw [e]; exact r⟩) ?_ ?_
        · rintro k x H5 H6 A5 B5 hk e5 ⟨rfl, rfl⟩ hA hB
          have eck : ((c : Int) + (k : Int)) = ((c + k : Nat) : Int) := by omega
          dsimp only [gName]
          rw [eck]
          have hkn : c + k < L.length := by omega
          obtain ⟨tk, htk, htkD, hLk⟩ := hLi.get hkn
          have hskD := same_l e5 hsD
          have hsk : SqL K _ tk (irow (L.getD (c + k) [])) := .inl (.inl (e5 _ _ hLk))
          have hlk := row_of sL (i := c + k) (by omega)
          refine ⟨rfl, _, rfl, _, rfl, ix_k (k := false) hskD htk ⟨_, rfl, ix_k (k := false) hsk (irow_get (by omega)) ⟨rfl, _, rfl, ?_⟩⟩⟩
          by_cases z : en L (c + k) c = 0
          · have z' : (L.getD (c + k) []).getD c 0 = 0 := z
            refine if_neg_of (by rw [dec_int, z']; rfl) (hB (by rw [z]; rfl) _ (Same.refl _))
          · have z' : (L.getD (c + k) []).getD c 0 ≠ 0 := z
            refine if_pos_of (by rw [dec_int]; simpa using z') ⟨_, rfl, hA (by simpa using z) _ (Same.refl _)⟩
        · intro D2 H5 e45 hD2 hL2
          have hso : ((List.range (n - c)).filter fun k => en L (c + k) c != 0).map (fun k => V.int ((c + k : Nat) : Int)) = irow ((someAt L n c).map fun p : Nat => (p : Int)) := by
            simp [someAt, irow, List.map_map, Function.comp_def]
          rw [hso] at hL2
          have hgo' := hgo
          rw [show n - c = (n - (c + 1)) + 1 by omega, lawGo, hLn] at hgo'
          have hLi5 := hLi.mono e45
          have hsS : SqL K H5 D2 (irow ((someAt L n c).map fun p : Nat => (p : Int))) := .inl (.inl hL2)
          refine ⟨_, rfl, by show 0 ≤ sizeLine; decide, fun p0 hp0 => ⟨.list (((someAt L n c).map fun p : Nat => (p : Int)).map PyData.int), .list (([] : List Int).map PyData.int), .lst (same_l (same_new hp0) hsS) (dp_ints _), .lst (.inl (.inl upd_same)) .nil, lst_shaped _, lst_shaped _, _, rfl, ?_⟩⟩
          rw [lst_eqv]
          have e50 : Same H5 (upd H5 p0 (.lst [])) := same_new hp0
          generalize upd H5 p0 (.lst []) = H50 at e50 ⊢
          have hLi50 := hLi5.mono e50
          have hsS50 := same_l e50 hsS
          have e550 : Same H H50 := e3.trans (e45.trans e50)
          cases hs : someAt L n c with
          | nil =>
            rw [hs] at hgo'
            refine if_pos_of (by simp) ?_
            have := q _ e550
            rw [← hgo'] at this
            exact this
          | cons p rest =>
            rw [hs] at hgo' hsS50
            obtain ⟨hp1, hp2, hp3⟩ := someAt_mem hs
            refine if_neg_of (by simp) ?_
            have h0 : (irow ((p :: rest).map fun p : Nat => (p : Int)))[0]? = some (.int ((p : Nat) : Int)) := rfl
            refine ⟨_, rfl, ix_k (k := false) (i := 0) hsS50 h0 ⟨_, rfl, rfl, _, rfl, ?_⟩⟩
            by_cases cp : p = c
            · obtain rfl : c = p := cp.symm
              refine if_neg_of (by rw [dec_int]; simp) ?_
              have hgo1 : lawGo (n - (c + 1)) (c + 1) (elimR L c s L.length) g (en L c c) = lawDet M := by simpa using hgo'
              have hsD1 : SqL K H50 D zs := .inl (.inl hLi50.1)
              have hLn1 := sL.len
              obtain ⟨tl, htl, htlD, hLl⟩ := hLi50.get (j := c) (by omega)
              have ll := row_of sL hc
              refine ⟨_, rfl, _, rfl, ix_k (k := false) hsD1 htl ?_⟩
              refine ⟨_, rfl, _, _, rfl, rfl, _, rfl, D, zs, rfl, .inl hsD1, _, _, rfl, ⟨by omega, by omega, by omega, by have := hLi50.2.1; omega⟩, ?_⟩
              have etn : (((zs.length : Nat) : Int) - ((c : Int) + 1)).toNat = n - (c + 1) := by have := hLi50.2.1; omega
              rw [etn]
              refine for_it (walk_range (lo := (c : Int) + 1) (n := n - (c + 1))) (fun j σ H' => j ≤ n - (c + 1) ∧ Same H H' ∧ ∃ (ws : List V) (x7 x9 : Option V), L0 H' D ws (elimR L c s (c + 1 + j)) ∧ H' tl = some (.lst (irow (L.getD c []))) ∧
                σ = [some (.ref a), some (.ref D), some (.int g), some (.int s), none, some (.int (c : Nat)), some (.ref D2), x7, some (.ref tl), x9, none, none])
                ⟨Nat.zero_le _, e550, zs, x7, x9, by rw [Nat.add_zero, elimR_start]; exact hLi50, hLl, rfl⟩ (fun _ _ _ _ _ => trivial) ?_ ?_
              · rintro j x σ H6 H7 hj ⟨_, e6, ws, x7', x9', hLj, hLl6, rfl⟩ ⟨rfl, rfl⟩
                have epl : ((c : Int) + 1 + (j : Int)) = ((c + 1 + j : Nat) : Int) := by omega
                have hpl : c + 1 + j < n := by omega
                dsimp only [gName, tSeq, tAsg]
                rw [epl]
                have hEl : (elimR L c s (c + 1 + j)).length = n := elimR_len.trans hLn1
                obtain ⟨tp, htp, htpD, hLp⟩ := hLj.get (j := c + 1 + j) (by omega)
                rw [elimR_get (by omega), if_neg (by omega)] at hLp
                have lp := row_of sL hpl
                have hsD6 : SqL K _ D ws := .inl (.inl hLj.1)
                have hsl : SqL K _ tl (irow (L.getD c [])) := .inl (.inl hLl6)
                have hsp : SqL K _ tp (irow (L.getD (c + 1 + j) [])) := .inl (.inl hLp)
                have bl := bL.row c
                have bp := bL.row (c + 1 + j)
                have wb : ∀ {z : Int}, z.natAbs ≤ bnd c → Wd z := fun h => bb_wd h (Nat.lt_of_le_of_lt (bnd_mono (by omega)) bnd_4)
                refine ⟨_, rfl, _, rfl, ix_k (k := false) hsD6 htp ?_⟩
                refine comp_pair (K := K) (walk_zip2 (k1 := false) (k2 := false) (a := tp) (b := tl) (xs := irow (L.getD (c + 1 + j) [])) (ys := irow (L.getD c [])) rfl) (fun k => .int (((L.getD c []).getD c 0 * (L.getD (c + 1 + j) []).getD k 0 - (L.getD (c + 1 + j) []).getD c 0 * (L.getD c []).getD k 0).fdiv s)) (by simp only [irow, List.length_map]; omega)
                  (fun H' e => ⟨same_l e hsp, same_l e hsl⟩) (fun R r => ⟨_, rfl, _, rfl, false, false, tp, tl, _, _, rfl, hsp, hsl, r⟩) (fun x y => rfl) ?_ ?_
                · intro k x y D8 acc8 H8 A8 hk e8 hD8 hL8 hx hy hA
                  obtain ⟨hk1, rfl⟩ := irow_get' hx
                  obtain ⟨hk2, rfl⟩ := irow_get' hy
                  refine ⟨_, rfl, _, rfl, ix_k (k := false) (same_l e8 hsl) (irow_get (by omega)) ⟨_, rfl, _, _, rfl, rfl, Wd.mul (wb (bl.get _)) (wb (bp.get _)), _, rfl, _, rfl, ix_k (k := false) (same_l e8 hsp) (irow_get (by omega)) ⟨_, rfl, _, _, rfl, rfl, Wd.mul (wb (bp.get _)) (wb (bl.get _)), _, _, rfl, rfl, _, rfl, _, _, rfl, rfl, ⟨hs0, log_of ?_⟩, hA _ _ (Same.refl _) fun u => .int _⟩⟩⟩
                  exact Nat.lt_of_le_of_lt hsb (Nat.lt_trans (Nat.lt_of_le_of_lt (bnd_mono (by omega)) bnd_4) (Nat.pow_lt_pow_right (by decide) (by decide)))
                · intro D8 us8 H8 e8 hD8 hL8 hj8
                  rw [zipW_data (fun x y => ((L.getD c []).getD c 0 * x - (L.getD (c + 1 + j) []).getD c 0 * y).fdiv s)] at hj8
                  have hcl : List.zipWith (fun x y => ((L.getD c []).getD c 0 * x - (L.getD (c + 1 + j) []).getD c 0 * y).fdiv s) (L.getD (c + 1 + j) []) (L.getD c []) = clr (L.getD c []) (L.getD (c + 1 + j) []) c s := rfl
                  rw [hcl] at hj8
                  rw [jd_ints_inv _ _ hj8] at hL8
                  have hD8D : D8 ≠ D := fun e => by subst e; rw [hLj.1] at hD8; cases hD8
                  have hLj8 := hLj.mono e8
                  have put := hLj8.put (t := D8) (r := clr (L.getD c []) (L.getD (c + 1 + j) []) c s) hD8D hL8 (i := c + 1 + j)
                  rw [elimR_next (by omega) (by omega)] at put
                  refine ⟨_, rfl, _, rfl, D, ws, _, c + 1 + j, rfl, rfl, hLj8.1, ixN_of (by rw [hLj8.2.1, hEl]; exact hpl), ?_⟩
                  refine ⟨by omega, ?_, _, some (.int ((c + 1 + j : Nat) : Int)), some (.ref tp), put, ?_, rfl⟩
                  · intro x o h
                    rw [upd_ne (ne_of_none h hDH)]
                    exact e8 x o (e6 x o h)
                  · rw [upd_ne htlD]
                    exact e8 _ _ hLl6
              · rintro σ H6 ⟨_, e6, ws, x7', x9', hLj, hLl6, rfl⟩
                have ecn : c + 1 + (n - (c + 1)) = L.length := by omega
                rw [ecn] at hLj
                have hsl : SqL K H6 tl (irow (L.getD c [])) := .inl (.inl hLl6)
                refine ⟨_, rfl, _, rfl, ix_k (k := false) hsl (irow_get (by omega)) ?_⟩
                have hen : (L.getD c []).getD c 0 = en L c c := rfl
                rw [hen]
                refine ⟨hc, e6, ws, elimR L c s L.length, g, en L c c, _, _, _, _, _, hLj, elimR_sq sL hc, elimR_ab sL bL hs0, hg1, hp3, Nat.le_trans (bL.en _ _) (bnd_mono (Nat.le_succ c)), hgo1, rfl⟩
            · refine if_pos_of (by rw [dec_int]; have := int_ne cp; simp [this]) ?_
              have hcn : c < L.length := by omega
              have hpn : p < L.length := by omega
              have hsD50 : SqL K H50 D zs := .inl (.inl hLi50.1)
              obtain ⟨tc, htc, htcD, hLc⟩ := hLi50.get hcn
              obtain ⟨tp0, htp0, htp0D, hLp0⟩ := hLi50.get hpn
              refine ⟨_, rfl, _, rfl, ix_k (k := false) (i := 0) hsS50 h0 (ix_k (k := false) hsD50 htp0 ⟨_, rfl, _, rfl, ix_k (k := false) hsD50 htc ⟨by show 2 ≤ sizeLine; decide, fun p3 hp3' => ?_⟩⟩)⟩
              have e53 : Same H50 (upd H50 p3 (.tup [.ref tp0, .ref tc])) := same_new hp3'
              have hLi53 := hLi50.mono e53
              have hsS53 := same_l e53 hsS50
              have e39 := e550.trans e53
              have hLc3 := e53 _ _ hLc
              have hLp3 := e53 _ _ hLp0
              refine ⟨p3, _, rfl, .inl (.inl upd_same), rfl, ?_⟩
              generalize upd H50 p3 (.tup [.ref tp0, .ref tc]) = H53 at e53 hLi53 hsS53 e39 hLc3 hLp3 ⊢
              have put1 := hLi53.put (t := tp0) (r := L.getD p []) htp0D hLp3 (i := c)
              have hLc4 : (upd H53 D (.lst (zs.set c (.ref tp0)))) tc = some (.lst (irow (L.getD c []))) := by rw [upd_ne htcD]; exact hLc3
              have put2 := put1.put (t := tc) (r := L.getD c []) htcD hLc4 (i := p)
              have hD2D : D2 ≠ D := fun e => by subst e; rw [hLi.mono (Same.refl _) |>.1] at hD2; cases hD2
              have hsS54 : SqL K (upd H53 D (.lst (zs.set c (.ref tp0)))) D2 (irow ((p :: rest).map fun p : Nat => (p : Int))) := by
                rcases hsS53 with (h | ⟨o, h⟩) | h
                · exact .inl (.inl (by rw [upd_ne hD2D]; exact h))
                · exact .inl (.inr ⟨o, by rw [upd_ne hD2D]; exact h⟩)
                · exact .inr h
              refine ⟨_, _, rfl, ⟨_, rfl, _, rfl, D, zs, _, c, rfl, rfl, hLi53.1, ixN_of (by omega), _, _, rfl, ⟨_, rfl, _, rfl, ix_k (k := false) (i := 0) hsS54 h0 ⟨D, _, _, p, rfl, rfl, put1.1, ixN_of (by simp; omega), rfl, ?_⟩⟩⟩⟩
              have e9 : Same H (upd (upd H53 D (.lst (zs.set c (.ref tp0)))) D (.lst ((zs.set c (.ref tp0)).set p (.ref tc)))) := fun x o h => by
                rw [upd_ne (ne_of_none h hDH), upd_ne (ne_of_none h hDH)]
                exact e39 x o h
              have hL1 : L0 (upd (upd H53 D (.lst (zs.set c (.ref tp0)))) D (.lst ((zs.set c (.ref tp0)).set p (.ref tc)))) D ((zs.set c (.ref tp0)).set p (.ref tc)) (swapR L c p) := put2
              generalize upd (upd H53 D (.lst (zs.set c (.ref tp0)))) D (.lst ((zs.set c (.ref tp0)).set p (.ref tc))) = H9 at e9 hL1 ⊢
              generalize (zs.set c (.ref tp0)).set p (.ref tc) = zs1 at hL1 ⊢
              have sL1 : Sq n (swapR L c p) := swapR_sq sL hc hp2
              have bL1 : Ab (bnd c) (swapR L c p) := swapR_ab bL
              have hg1' : (0 - g).natAbs = 1 := by omega
              have hz0 : en (swapR L c p) c c ≠ 0 := by
                have e : en (swapR L c p) c c = en L p c := by
                  unfold en swapR
                  have e1 : (((L.set c (L.getD p [])).set p (L.getD c [])).getD c []) = L.getD p [] := by
                    rw [List.getD_eq_getElem?_getD, List.getElem?_set_ne cp, List.getElem?_set_self hcn]
                    rfl
                  rw [e1]
                rw [e]; exact hp3
              have hgo1 : lawGo (n - (c + 1)) (c + 1) (elimR (swapR L c p) c s (swapR L c p).length) (0 - g) (en (swapR L c p) c c) = lawDet M := by
                simp only [if_neg cp] at hgo'
                exact hgo'
              refine ⟨_, rfl, _, _, rfl, rfl, ?_⟩
              have hsD1 : SqL K H9 D zs1 := .inl (.inl hL1.1)
              have hL1n := sL1.len
              obtain ⟨tl, htl, htlD, hLl⟩ := hL1.get (j := c) (by omega)
              have ll := row_of sL1 hc
              refine ⟨_, rfl, _, rfl, ix_k (k := false) hsD1 htl ?_⟩
              refine ⟨_, rfl, _, _, rfl, rfl, _, rfl, D, zs1, rfl, .inl hsD1, _, _, rfl, ⟨by omega, by omega, by omega, by have := hL1.2.1; omega⟩, ?_⟩
              have etn : (((zs1.length : Nat) : Int) - ((c : Int) + 1)).toNat = n - (c + 1) := by have := hL1.2.1; omega
              rw [etn]
              refine for_it (walk_range (lo := (c : Int) + 1) (n := n - (c + 1))) (fun j σ H' => j ≤ n - (c + 1) ∧ Same H H' ∧ ∃ (ws : List V) (x7 x9 : Option V), L0 H' D ws (elimR (swapR L c p) c s (c + 1 + j)) ∧ H' tl = some (.lst (irow ((swapR L c p).getD c []))) ∧
                σ = [some (.ref a), some (.ref D), some (.int (0 - g)), some (.int s), none, some (.int (c : Nat)), some (.ref D2), x7, some (.ref tl), x9, none, none])
                ⟨Nat.zero_le _, e9, zs1, x7, x9, by rw [Nat.add_zero, elimR_start]; exact hL1, hLl, rfl⟩ (fun _ _ _ _ _ => trivial) ?_ ?_
              · rintro j x σ H6 H7 hj ⟨_, e6, ws, x7', x9', hLj, hLl6, rfl⟩ ⟨rfl, rfl⟩
                have epl : ((c : Int) + 1 + (j : Int)) = ((c + 1 + j : Nat) : Int) := by omega
                have hpl : c + 1 + j < n := by omega
                dsimp only [gName, tSeq, tAsg]
                rw [epl]
                have hEl : (elimR (swapR L c p) c s (c + 1 + j)).length = n := elimR_len.trans hL1n
                obtain ⟨tp, htp, htpD, hLp⟩ := hLj.get (j := c + 1 + j) (by omega)
                rw [elimR_get (by omega), if_neg (by omega)] at hLp
                have lp := row_of sL1 hpl
                have hsD6 : SqL K _ D ws := .inl (.inl hLj.1)
                have hsl : SqL K _ tl (irow ((swapR L c p).getD c [])) := .inl (.inl hLl6)
                have hsp : SqL K _ tp (irow ((swapR L c p).getD (c + 1 + j) [])) := .inl (.inl hLp)
                have bl := bL1.row c
                have bp := bL1.row (c + 1 + j)
                have wb : ∀ {z : Int}, z.natAbs ≤ bnd c → Wd z := fun h => bb_wd h (Nat.lt_of_le_of_lt (bnd_mono (by omega)) bnd_4)
                refine ⟨_, rfl, _, rfl, ix_k (k := false) hsD6 htp ?_⟩
                refine comp_pair (K := K) (walk_zip2 (k1 := false) (k2 := false) (a := tp) (b := tl) (xs := irow ((swapR L c p).getD (c + 1 + j) [])) (ys := irow ((swapR L c p).getD c [])) rfl) (fun k => .int ((((swapR L c p).getD c []).getD c 0 * ((swapR L c p).getD (c + 1 + j) []).getD k 0 - ((swapR L c p).getD (c + 1 + j) []).getD c 0 * ((swapR L c p).getD c []).getD k 0).fdiv s)) (by simp only [irow, List.length_map]; omega)
                  (fun H' e => ⟨same_l e hsp, same_l e hsl⟩) (fun R r => ⟨_, rfl, _, rfl, false, false, tp, tl, _, _, rfl, hsp, hsl, r⟩) (fun x y => rfl) ?_ ?_
                · intro k x y D8 acc8 H8 A8 hk e8 hD8 hL8 hx hy hA
                  obtain ⟨hk1, rfl⟩ := irow_get' hx
                  obtain ⟨hk2, rfl⟩ := irow_get' hy
                  refine ⟨_, rfl, _, rfl, ix_k (k := false) (same_l e8 hsl) (irow_get (by omega)) ⟨_, rfl, _, _, rfl, rfl, Wd.mul (wb (bl.get _)) (wb (bp.get _)), _, rfl, _, rfl, ix_k (k := false) (same_l e8 hsp) (irow_get (by omega)) ⟨_, rfl, _, _, rfl, rfl, Wd.mul (wb (bp.get _)) (wb (bl.get _)), _, _, rfl, rfl, _, rfl, _, _, rfl, rfl, ⟨hs0, log_of ?_⟩, hA _ _ (Same.refl _) fun u => .int _⟩⟩⟩
                  exact Nat.lt_of_le_of_lt hsb (Nat.lt_trans (Nat.lt_of_le_of_lt (bnd_mono (by omega)) bnd_4) (Nat.pow_lt_pow_right (by decide) (by decide)))
                · intro D8 us8 H8 e8 hD8 hL8 hj8
                  rw [zipW_data (fun x y => (((swapR L c p).getD c []).getD c 0 * x - ((swapR L c p).getD (c + 1 + j) []).getD c 0 * y).fdiv s)] at hj8
                  have hcl : List.zipWith (fun x y => (((swapR L c p).getD c []).getD c 0 * x - ((swapR L c p).getD (c + 1 + j) []).getD c 0 * y).fdiv s) ((swapR L c p).getD (c + 1 + j) []) ((swapR L c p).getD c []) = clr ((swapR L c p).getD c []) ((swapR L c p).getD (c + 1 + j) []) c s := rfl
                  rw [hcl] at hj8
                  rw [jd_ints_inv _ _ hj8] at hL8
                  have hD8D : D8 ≠ D := fun e => by subst e; rw [hLj.1] at hD8; cases hD8
                  have hLj8 := hLj.mono e8
                  have put := hLj8.put (t := D8) (r := clr ((swapR L c p).getD c []) ((swapR L c p).getD (c + 1 + j) []) c s) hD8D hL8 (i := c + 1 + j)
                  rw [elimR_next (by omega) (by omega)] at put
                  refine ⟨_, rfl, _, rfl, D, ws, _, c + 1 + j, rfl, rfl, hLj8.1, ixN_of (by rw [hLj8.2.1, hEl]; exact hpl), ?_⟩
                  refine ⟨by omega, ?_, _, some (.int ((c + 1 + j : Nat) : Int)), some (.ref tp), put, ?_, rfl⟩
                  · intro x o h
                    rw [upd_ne (ne_of_none h hDH)]
                    exact e8 x o (e6 x o h)
                  · rw [upd_ne htlD]
                    exact e8 _ _ hLl6
              · rintro σ H6 ⟨_, e6, ws, x7', x9', hLj, hLl6, rfl⟩
                have ecn : c + 1 + (n - (c + 1)) = (swapR L c p).length := by omega
                rw [ecn] at hLj
                have hsl : SqL K H6 tl (irow ((swapR L c p).getD c [])) := .inl (.inl hLl6)
                refine ⟨_, rfl, _, rfl, ix_k (k := false) hsl (irow_get (by omega)) ?_⟩
                have hen : ((swapR L c p).getD c []).getD c 0 = en (swapR L c p) c c := rfl
                rw [hen]
                refine ⟨hc, e6, ws, elimR (swapR L c p) c s (swapR L c p).length, 0 - g, en (swapR L c p) c c, _, _, _, _, _, hLj, elimR_sq sL1 hc, elimR_ab sL1 bL1 hs0, hg1', hz0, Nat.le_trans (bL1.en _ _) (bnd_mono (Nat.le_succ c)), hgo1, rfl⟩
      · rintro σ H3 ⟨_, e3, zs, L, g, s, x5, x6, x7, x8, x9, hLi, sL, bL, hg1, hs0, hsb, hgo, rfl⟩
        rw [Nat.sub_self] at hgo
        have := q _ e3
        rw [← hgo] at this
        exact ⟨_, rfl, _, rfl, _, _, rfl, rfl, Wd.mul (Wd.unit (by omega)) (bb_wd hsb (Nat.lt_of_le_of_lt (bnd_mono h4) bnd_4)), this⟩
end
end K06

set_option maxHeartbeats 1000000
namespace K06
open PySem PySem.Spec PyProof.Rows L2 My ZN
section
variable {P : Program} {w : World} {K : PySem.W.Frag} {mg : Str → Option Value} {base : Heap} {A : Adr}
def NameOf (n : Nat) (v : V) : Prop := (n = 2 ∧ v = .str "A2") ∨ (n = 3 ∧ v = .str "A3") ∨ (n = 4 ∧ v = .str "A4") ∨ (n = 4 ∧ v = .str "D4")
def sp_names (K : PySem.W.Frag) : Sp := fun vs H Q _ => ∃ n : Nat, vs = [.int (n : Nat)] ∧ N4 n ∧ ∀ D xs H', Same H H' → H D = none → H' D = some (.lst xs) → xs ≠ [] → xs.length < 1000 → (∀ v ∈ xs, NameOf n v) → Q (.ref D) H'
theorem ok__law_names (T : Txt K mg A) : FnOk P w K mg base CX0 1 A.a__law_names A.d__law_names ["_law_size_here"] (sp_names K) := by
  refine T.f__law_names.ok sc__law_names (fun vs H Q E h => ?_) (fun cdv B out t H vs Q E hr h => ?_)
  · obtain ⟨n, rfl, _⟩ := h
    rfl
  · obtain ⟨n, rfl, h4, q⟩ := h
    refine ⟨_, (pss_one (ps_ret (pe_ifExp (pt_cmpR op_eq (pv 0) pe_int (nomark _)) (pe_lst (pa_cons pe_str (pa_cons pe_str pa_nil))) (pe_lst (pa_cons (pe_op op_add_str pe_str (pe_callTy call_str_int (by rfl) T.n_str (by decide +kernel) (pa_cons (pv 0) pa_nil))) pa_nil))))), ?_⟩
    refine ⟨_, rfl, rfl, _, rfl, ?_⟩
    rcases h4 with rfl | rfl | rfl
    · refine if_neg_of (by decide) ⟨_, rfl, _, rfl, by decide, _, _, rfl, rfl, by decide, by show 1 ≤ sizeLine; decide, fun p hp => ?_⟩
      exact q p _ _ (same_new hp) hp upd_same (by simp) (by simp) fun v hv => .inl ⟨rfl, by rw [List.mem_singleton.mp hv]; rfl⟩
    · refine if_neg_of (by decide) ⟨_, rfl, _, rfl, by decide, _, _, rfl, rfl, by decide, by show 1 ≤ sizeLine; decide, fun p hp => ?_⟩
      exact q p _ _ (same_new hp) hp upd_same (by simp) (by simp) fun v hv => .inr (.inl ⟨rfl, by rw [List.mem_singleton.mp hv]; rfl⟩)
    · refine if_pos_of (by decide) ⟨by show 2 ≤ sizeLine; decide, fun p hp => ?_⟩
      refine q p _ _ (same_new hp) hp upd_same (by simp) (by simp) fun v hv => ?_
      rcases List.mem_cons.mp hv with rfl | hv
      · exact .inr (.inr (.inl ⟨rfl, rfl⟩))
      · rw [List.mem_singleton.mp hv]
        exact .inr (.inr (.inr ⟨rfl, rfl⟩))
def d4M : List (List Int) := [[2, 1, 1, 1], [1, 2, 1, 1], [1, 1, 2, 0], [1, 1, 0, 2]]
def anM (n : Nat) : List (List Int) := mkM n fun i j => 1 + (if i = j then 1 else 0)
/-- a told table of this size -/
def Told (n : Nat) (M : List (List Int)) : Prop := (N4 n ∧ M = anM n) ∨ (n = 4 ∧ M = d4M)
theorem Told.fit {n : Nat} {M : List (List Int)} (h : Told n M) : N4 n ∧ Sq n M ∧ Sy n M ∧ Ab 2 M := by
  rcases h with ⟨h4, rfl⟩ | ⟨rfl, rfl⟩
  · have h2 := h4.two
    have h44 := h4.four
    refine ⟨h4, mkM_sq (by omega) (by omega), mk_sym (by omega) (by omega) fun i j => ?_, mk_ab (by omega) (by omega) fun i j _ _ => by split <;> decide⟩
    by_cases c : i = j
    · subst c; rfl
    · rw [if_neg c, if_neg (Ne.symm c)]
  · exact ⟨.inr (.inr rfl), ⟨rfl, by decide, by decide, by decide⟩, rfl, by unfold Ab; decide⟩
def sp_told (K : PySem.W.Frag) : Sp := fun vs H Q _ => ∃ v n, vs = [v] ∧ NameOf n v ∧ ∀ v' M H', Same H H' → MtAt K H' true v' M → Told n M → Q v' H'
theorem ok__law_told (T : Txt K mg A) : FnOk P w K mg base CX0 1 A.a__law_told A.d__law_told ["_law_name"] (sp_told K) := by
  refine T.f__law_told.ok sc__law_told (fun vs H Q E h => ?_) (fun cdv B out t H vs Q E hr h => ?_)
  · obtain ⟨v, n, rfl, _⟩ := h
    rfl
  · obtain ⟨v, n, rfl, hv, q⟩ := h
    refine ⟨_, (pss_cons (ps_if (pt_cmpR op_eq (pv 0) pe_str (nomark _)) (pss_one (ps_ret (pe_tup (pa_cons (pe_tup (pa_cons pe_int (pa_cons pe_int (pa_cons pe_int (pa_cons pe_int pa_nil))))) (pa_cons (pe_tup (pa_cons pe_int (pa_cons pe_int (pa_cons pe_int (pa_cons pe_int pa_nil))))) (pa_cons (pe_tup (pa_cons pe_int (pa_cons pe_int (pa_cons pe_int (pa_cons pe_int pa_nil))))) (pa_cons (pe_tup (pa_cons pe_int (pa_cons pe_int (pa_cons pe_int (pa_cons pe_int pa_nil))))) pa_nil))))))) pss_nil)
      (pss_cons (ps_set (i := 1) sc__law_told.nd rfl (Or.inr rfl) (pe_callTy call_int_str (by rfl) T.n_int (by decide +kernel) (pa_cons (pe_slice sl_str (pv 0) (po_some pe_int) po_none) pa_nil)))
      (pss_one (ps_ret (pe_callTy call_tuple_of (by rfl) T.n_tuple (by decide +kernel) (pa_cons (pe_lc (own := [("_law_at", 3)]) (g := (gName 3)) (tt := tYes)  rfl sc__law_told.nd (pi_range1 (by rfl) T.n_range (pa_cons (pv 1) pa_nil)) (blkOk_by (own := [("_law_at", 3)]) (N := names__law_told) (sc := defScope s__law_told) (by decide +kernel)) (fun _ _ _ _ _ => (pg_name (i := 3) sc__law_told.nd rfl (Or.inr rfl))) (fun _ _ _ _ _ => pts_nil) (fun _ _ _ _ _ => by apply My.pe_eq; (case h => exact (pe_callTy call_tuple_of (by rfl) T.n_tuple (by decide +kernel) (pa_cons (by exact (pe_lc (own := [("_law_to", 2)]) (g := (gName 2)) (tt := tYes)  rfl sc__law_told.nd (pi_range1 (by rfl) T.n_range (pa_cons (pv 1) pa_nil)) (by (exact L2.blkOk_by (by kernel_rfl))) (fun _ _ _ _ _ => (pg_name (i := 2) sc__law_told.nd rfl (Or.inl rfl))) (fun _ _ _ _ _ => pts_nil) (fun _ _ _ _ _ => by apply My.pe_eq; (case h => exact (pe_op op_add pe_int (pe_callTy call_int1 (by rfl) T.n_int (by decide +kernel) (pa_cons (pe_cmpR op_eq (pv 3) (pv 2) (nomark _)) pa_nil)))); all_goals (first | exact rfl | (dsimp only [L2.Cx.blk, L2.Cx.nox, L2.cxOf]; done) | (dsimp only [L2.Cx.blk, L2.Cx.nox, L2.cxOf]; exact rfl))))) pa_nil))); all_goals (first | exact rfl | (dsimp only [L2.Cx.blk, L2.Cx.nox, L2.cxOf]; done) | (dsimp only [L2.Cx.blk, L2.Cx.nox, L2.cxOf]; exact rfl)))) pa_nil)))))), ?_⟩
    have cases2 : (n = 4 ∧ v = .str "D4") ∨ ∃ nm : Str, N4 n ∧ v = .str nm ∧ decide (V.str nm = V.str "D4") = false ∧ PySem.intText? (cutS nm (some 1) none) = some (n : Int) ∧ nm.length ≤ 10 ∧ (cutS nm (some 1) none).length ≤ 640 := by
      rcases hv with ⟨rfl, rfl⟩ | ⟨rfl, rfl⟩ | ⟨rfl, rfl⟩ | ⟨rfl, rfl⟩
      · exact .inr ⟨_, .inl rfl, rfl, by decide +kernel, by decide +kernel, by decide +kernel, by decide +kernel⟩
      · exact .inr ⟨_, .inr (.inl rfl), rfl, by decide +kernel, by decide +kernel, by decide +kernel, by decide +kernel⟩
      · exact .inr ⟨_, .inr (.inr rfl), rfl, by decide +kernel, by decide +kernel, by decide +kernel, by decide +kernel⟩
      · exact .inl ⟨rfl, rfl⟩
    rcases cases2 with ⟨rfl, rfl⟩ | ⟨nm, h4, rfl, hne, hit, hl1, hl2⟩
    · refine ⟨_, rfl, rfl, _, rfl, if_pos_of (by decide) ?_⟩
      refine ⟨by show 4 ≤ sizeLine; decide, fun p1 h1 => ⟨by show 4 ≤ sizeLine; decide, fun p2 h2 => ⟨by show 4 ≤ sizeLine; decide, fun p3 h3 => ⟨by show 4 ≤ sizeLine; decide, fun p4 h4 => ⟨by show 4 ≤ sizeLine; decide, fun p5 h5 => ?_⟩⟩⟩⟩⟩
      have s2 := same_new (o := .tup [.int 1, .int 2, .int 1, .int 1]) h2
      have s3 := same_new (o := .tup [.int 1, .int 1, .int 2, .int 0]) h3
      have s4 := same_new (o := .tup [.int 1, .int 1, .int 0, .int 2]) h4
      have s5 := same_new (o := .tup [.ref p1, .ref p2, .ref p3, .ref p4]) h5
      refine q _ d4M _ ((same_new h1).trans (s2.trans (s3.trans (s4.trans s5)))) ⟨p5, [.ref p1, .ref p2, .ref p3, .ref p4], rfl, .inl (.inl upd_same), rfl, fun j r hj => ?_⟩ (.inr ⟨rfl, rfl⟩)
      have a1 := s5 _ _ (s4 _ _ (s3 _ _ (s2 _ _ (upd_same (H := H) (a := p1) (o := .tup [.int 2, .int 1, .int 1, .int 1])))))
      have a2 := s5 _ _ (s4 _ _ (s3 _ _ (upd_same (H := upd H p1 (.tup [.int 2, .int 1, .int 1, .int 1])) (a := p2) (o := .tup [.int 1, .int 2, .int 1, .int 1]))))
      match j, hj with
      | 0, hj => cases hj; exact ⟨p1, rfl, .inl (.inl a1)⟩
      | 1, hj => cases hj; exact ⟨p2, rfl, .inl (.inl a2)⟩
      | 2, hj => cases hj; exact ⟨p3, rfl, .inl (.inl (s5 _ _ (s4 _ _ upd_same)))⟩
      | 3, hj => cases hj; exact ⟨p4, rfl, .inl (.inl (s5 _ _ upd_same))⟩
      | j + 4, hj => simp [d4M] at hj
    · refine ⟨_, rfl, rfl, _, rfl, if_neg_of hne ?_⟩
      have hn2 := h4.two
      have hn4 := h4.four
      have n62 : ((n : Nat) : Int) < 2 ^ 62 := by omega
      refine ⟨_, rfl, _, rfl, nm, rfl, Nat.le_trans hl1 (by rw [sizeLine_eq]; decide), _, _, rfl, hit, hl2, ?_⟩
      dsimp only [gName, tNext, tRet, tCB, tCons, tNil]
      rw [tLc_eq]
      refine ⟨_, rfl, _, rfl, by omega, n62, ?_⟩
      rw [Int.toNat_natCast]
      unfold LcAt
      refine comp_rng (K := K) (walk_range (lo := 0) (n := n)) (fun i => rowD ((List.range n).map fun j => 1 + if i = j then 1 else 0)) (by omega) (fun _ _ => trivial) (fun R q0 => q0) (fun x => rfl) ?_ ?_
      · intro i D acc H1 A1 hi e1 hD hL hA
        dsimp only [tCB, tCons, tNil]
        rw [tLc_eq]
        refine ⟨_, rfl, _, rfl, by omega, n62, ?_⟩
        rw [Int.toNat_natCast, Int.zero_add]
        unfold LcAt
        refine comp_rng (K := K) (walk_range (lo := 0) (n := n)) (fun j => .int (1 + if i = j then 1 else 0)) (by omega) (fun _ _ => trivial) (fun R q0 => q0) (fun x => rfl) ?_ ?_
        · intro j D2 acc2 H2 A2 hj e2 hD2 hL2 hA2
          rw [Int.zero_add]
          refine ⟨_, rfl, _, rfl, rfl, Or.inr ⟨_, rfl, _, _, rfl, rfl, ?_⟩⟩
          have ev : (1 : Int) + (if decide (V.int (i : Nat) = V.int (j : Nat)) = true then (1 : Int) else 0) = 1 + if i = j then 1 else 0 := by
            by_cases c : i = j
            · subst c; simp
            · have c' : ¬ ((i : Int) = (j : Int)) := int_ne c
              simp [c, c']
          show A2 (V.int ((1 : Int) + (if decide (V.int (i : Nat) = V.int (j : Nat)) = true then (1 : Int) else 0))) H2
          rw [ev]
          exact hA2 _ _ (Same.refl _) fun u => .int _
        · intro D2 zs H2 e2 hD2 hL2 hj
          have hj2 : JdAll K H2 zs (((List.range n).map fun j => (1 : Int) + if i = j then 1 else 0).map PyData.int) := by simpa [List.map_map, Function.comp_def] using hj
          rw [jd_ints_inv _ _ hj2] at hL2
          exact ⟨D2, _, rfl, .inl ⟨.inl (.inl hL2), fun l hl => hA _ _ (e2.trans (same_new hl)) fun u => row_new (e2 _ _ hL) hl⟩⟩
      · intro D ys H1 e1 hD hL hj
        have hr2 : RowsAt K H1 ys ((anM n).map irow) := jd_rows (by simpa [anM, mkM, List.map_map, Function.comp_def] using hj)
        exact ⟨D, _, rfl, .inl ⟨.inl (.inl hL), fun l hl => q _ _ _ (e1.trans (same_new hl)) ⟨l, ys, rfl, .inl (.inl upd_same), rows_mono (same_new hl) hr2⟩ (.inl ⟨h4, rfl⟩)⟩⟩
end
end K06

set_option maxHeartbeats 1000000
namespace My
open PySem PySem.Spec PyProof.Rows L2 ZN
def lawAdjE (M : List (List Int)) (i j : Nat) : Int := lawDet (minorM M j i) * (1 - 2 * (((i + j) % 2 : Nat) : Int))
def lawAdj (M : List (List Int)) : List (List Int) := (List.range M.length).map fun i => (List.range M.length).map fun j => lawAdjE M i j
section
variable {K : PySem.W.Frag} {H : Hp} {F L : Addr} {rs : List V} {N : List (List Int)} {u v : HO}
theorem upd_comm (h : F ≠ L) : upd (upd H F u) L v = upd (upd H L v) F u := by
  funext a
  by_cases c : a = F
  · subst c; rw [upd_ne h, upd_same, upd_same]
  · by_cases d : a = L
    · subst d; rw [upd_same, upd_ne c, upd_same]
    · rw [upd_ne d, upd_ne c, upd_ne c, upd_ne d]
theorem rows_put (h : RowsK K H true rs N) {acc : List V} (hL : H L = some (.lst acc)) : RowsK K (upd H L u) true rs N :=
  ⟨h.1, fun j r hj => let ⟨t, h1, h2⟩ := h.2 j r hj; ⟨t, h1, t_upd hL h2⟩⟩
theorem rows_un (h : RowsK K (upd H F (.tup [])) true rs N) (hn : ∀ r ∈ N, r ≠ []) : RowsK K H true rs N := by
  refine ⟨h.1, fun j r hj => ?_⟩
  obtain ⟨t, h1, h2⟩ := h.2 j r hj
  refine ⟨t, h1, ?_⟩
  have hr := hn r (List.mem_of_getElem? hj)
  rcases h2 with (h2 | ⟨o, h2⟩) | h2
  · by_cases c : t = F
    · subst c
      rw [upd_same] at h2
      have e : irow r = [] := by simpa using h2.symm
      exact absurd (List.map_eq_nil_iff.mp e) hr
    · rw [upd_ne c] at h2
      exact .inl (.inl h2)
  · by_cases c : t = F
    · subst c
      rw [upd_same] at h2
      cases h2
    · rw [upd_ne c] at h2
      exact .inl (.inr ⟨o, h2⟩)
  · exact .inr h2
end
theorem range_snoc_map {α : Type} (f : Nat → α) (k : Nat) : (List.range (k + 1)).map f = (List.range k).map f ++ [f k] := by
  rw [List.range_succ, List.map_append]; rfl
end My
namespace K06
open PySem PySem.Spec PyProof.Rows L2 My ZN
section
variable {P : Program} {w : World} {K : PySem.W.Frag} {mg : Str → Option Value} {base : Heap} {A : Adr}
def sp_adjoint (K : PySem.W.Frag) : Sp := fun vs H Q _ => ∃ v M n, vs = [v] ∧ MtAt K H true v M ∧ Sq n M ∧ N4 n ∧ Ab (2 ^ 201) M ∧ (∀ i j, i < n → j < n → Wd (lawDet (minorM M j i))) ∧ ∀ v' H', Same H H' → MtAt K H' true v' (lawAdj M) → Q v' H'
theorem ok__law_adjoint (T : Txt K mg A) : FnOk P w K mg base CX0 2 A.a__law_adjoint A.d__law_adjoint ["_law_table"] (sp_adjoint K) := by
  have G__law_determinant : FnOk P w K mg base CX0 1 A.a__law_determinant A.d__law_determinant ["_law_rows"] (sp_law_det K) := ok__law_determinant T
  refine T.f__law_adjoint.ok sc__law_adjoint (fun vs H Q E h => ?_) (fun cdv B out t H vs Q E hr h => ?_)
  · obtain ⟨v, M, n, rfl, _⟩ := h
    rfl
  · obtain ⟨v, M, n, rfl, hM, sM, h4, hb, hwd, q⟩ := h
    refine ⟨_, (pss_cons (ps_asg (pe_tup (pa_cons (pe_callB call_len_seq (by rfl) T.n_len (by decide +kernel) (pa_cons (pv 0) pa_nil)) (pa_cons (pe_lst pa_nil) pa_nil))) (pg_tup (by rfl) (pgs_cons (pg_name (i := 1) sc__law_adjoint.nd rfl (Or.inr rfl)) (pgs_cons (pg_name (i := 2) sc__law_adjoint.nd rfl (Or.inl rfl)) pgs_nil))))
      (pss_cons (ps_for PassesOwn.never rfl (pi_range1 (by rfl) T.n_range (pa_cons (pv 1) pa_nil)) (pg_name (i := 3) sc__law_adjoint.nd rfl (Or.inr rfl)) (pss_cons (ps_set (i := 4) sc__law_adjoint.nd rfl (Or.inl rfl) (pe_lst pa_nil))
      (pss_cons (ps_for PassesOwn.never rfl (pi_range1 (by rfl) T.n_range (pa_cons (pv 1) pa_nil)) (pg_name (i := 5) sc__law_adjoint.nd rfl (Or.inr rfl)) (pss_cons (ps_setLc (i := 6) (own := [("_law_index", 8), ("_law_row", 9)]) (g := (gTup K 2 (gCons (gName 8) (gCons (gName 9) gNil))))  rfl sc__law_adjoint.nd rfl rfl (sw_true rfl rfl rfl (by decide +kernel)) (ZN.pi_enumK (by rfl) T.n_enumerate (pa_cons (pv 0) pa_nil)) (blkOk_by (own := [("_law_index", 8), ("_law_row", 9)]) (N := names__law_adjoint) (sc := defScope s__law_adjoint) (by decide +kernel)) (fun _ _ _ _ _ => (pg_tup (by rfl) (pgs_cons (pg_name (i := 8) sc__law_adjoint.nd rfl (Or.inl rfl)) (pgs_cons (pg_name (i := 9) sc__law_adjoint.nd rfl (Or.inr rfl)) pgs_nil)))) (fun _ _ _ _ _ => by apply My.pts_eq; (case h => exact (pts_one (pt_cmpR op_ne (pv 8) (pv 5) (nomark _)))); all_goals (first | exact rfl | (dsimp only [L2.Cx.blk, L2.Cx.nox, L2.cxOf]; done) | (dsimp only [L2.Cx.blk, L2.Cx.nox, L2.cxOf]; exact rfl))) (fun _ _ _ _ _ => by apply My.pe_eq; (case h => exact (by exact (pe_lc (own := [("_law_spot", 7)]) (g := (gName 7))  rfl sc__law_adjoint.nd (pi_range1 (by rfl) T.n_range (pa_cons (pv 1) pa_nil)) (by (exact L2.blkOk_by (by kernel_rfl))) (fun _ _ _ _ _ => (pg_name (i := 7) sc__law_adjoint.nd rfl (Or.inl rfl))) (fun _ _ _ _ _ => by apply My.pts_eq; (case h => exact (pts_one (pt_cmpR op_ne (pv 7) (pv 3) (nomark _)))); all_goals (first | exact rfl | (dsimp only [L2.Cx.blk, L2.Cx.nox, L2.cxOf]; done) | (dsimp only [L2.Cx.blk, L2.Cx.nox, L2.cxOf]; exact rfl))) (fun _ _ _ _ _ => by apply My.pe_eq; (case h => exact (pe_ix ix_seq (pv 9) (pv 7) (fun _ _ => rfl))); all_goals (first | exact rfl | (dsimp only [L2.Cx.blk, L2.Cx.nox, L2.cxOf]; done) | (dsimp only [L2.Cx.blk, L2.Cx.nox, L2.cxOf]; exact rfl)))))); all_goals (first | exact rfl | (dsimp only [L2.Cx.blk, L2.Cx.nox, L2.cxOf]; done) | (dsimp only [L2.Cx.blk, L2.Cx.nox, L2.cxOf]; exact rfl))))
      (pss_one (ps_expr (pe_bm PySem.F.plainAttrs_list PySem.F.slot_list_append PySem.F.type_list_append mt_append (pv 4) (pa_cons (pe_op op_mulW (pe_call G__law_determinant (hr.mono (by decide)) (by rfl) T.g__law_determinant T.f__law_determinant.kp (b__law_determinant T) .nil pass0 (pa_cons (pv 6) pa_nil)) (pe_op op_sub pe_int (pe_op op_mul pe_int (pe_op op_modN (pe_op op_add (pv 3) (pv 5)) pe_int)))) pa_nil))))))
      (pss_one (ps_expr (pe_bm PySem.F.plainAttrs_list PySem.F.slot_list_append PySem.F.type_list_append mt_append (pv 2) (pa_cons (pe_callTy call_tuple_of (by rfl) T.n_tuple (by decide +kernel) (pa_cons (pv 4) pa_nil)) pa_nil)))))))
      (pss_one (ps_ret (pe_callTy call_tuple_of (by rfl) T.n_tuple (by decide +kernel) (pa_cons (pv 2) pa_nil)))))), ?_⟩
    have hn2 := h4.two
    have hn4 := h4.four
    have n62 : ((n : Nat) : Int) < 2 ^ 62 := by omega
    have hMn := sM.len
    obtain ⟨a, ls, rfl, hsA, hlA, hrA⟩ := hM.sq
    have hln : ls.length = n := by omega
    refine ⟨_, rfl, a, ls, rfl, .inr hsA, by show 0 ≤ sizeLine; decide, fun F hF => ⟨by show 2 ≤ sizeLine; decide, fun p2 hp2 => ?_⟩⟩
    have e1 : Same H (upd (upd H F (.lst [])) p2 (.tup [.int (ls.length : Nat), .ref F])) := (same_new hF).trans (same_new hp2)
    have hF1 : (upd (upd H F (.lst [])) p2 (.tup [.int (ls.length : Nat), .ref F])) F = some (.lst []) := same_new hp2 _ _ upd_same
    refine ⟨p2, _, rfl, .inl (.inl upd_same), rfl, _, _, rfl, _, _, rfl, rfl, ?_⟩
    generalize upd (upd H F (.lst [])) p2 (.tup [.int (ls.length : Nat), .ref F]) = H1 at e1 hF1 ⊢
    rw [hln]
    refine ⟨_, rfl, _, rfl, by omega, n62, ?_⟩
    rw [Int.toNat_natCast]
    refine for_it (walk_range (lo := 0) (n := n)) (fun i σ H' => i ≤ n ∧ Same H H' ∧ ∃ (rs : List V) (x3 x4 x5 x6 : Option V), H' F = some (.lst rs) ∧ RowsK K (upd H' F (.tup [])) true rs ((List.range i).map fun i => (List.range n).map fun j => lawAdjE M i j) ∧
      σ = [some (.ref a), some (.int (n : Nat)), some (.ref F), x3, x4, x5, x6, none, none, none])
      ⟨Nat.zero_le _, e1, [], none, none, none, none, hF1, ⟨rfl, fun j r e => by simp at e⟩, rfl⟩ (fun _ _ _ _ _ => trivial) ?_ ?_
    · rintro i x σ H2 H3 hi ⟨_, e2, rs, x3, x4, x5, x6, hF2, hR2, rfl⟩ ⟨rfl, rfl⟩
      have hHF : H F = none := hF
      dsimp only [gName, tSeq, tAsg]
      rw [Int.zero_add]
      refine ⟨by show 0 ≤ sizeLine; decide, fun Ln hLn => ?_⟩
      have hFL : F ≠ Ln := fun e => by subst e; rw [hF2] at hLn; cases hLn
      have e3 := e2.trans (same_new (o := .lst []) hLn)
      have hHL : H Ln = none := none_of_same e2 hLn
      refine ⟨_, rfl, _, rfl, by omega, n62, ?_⟩
      rw [Int.toNat_natCast]
      refine for_it (walk_range (lo := 0) (n := n)) (fun j σ H' => j ≤ n ∧ Same H H' ∧ (∃ (x5 x6 : Option V), H' F = some (.lst rs) ∧ RowsK K (upd H' F (.tup [])) true rs ((List.range i).map fun i => (List.range n).map fun j => lawAdjE M i j) ∧ H' Ln = some (.lst (irow ((List.range j).map fun j => lawAdjE M i j))) ∧
        σ = [some (.ref a), some (.int (n : Nat)), some (.ref F), some (.int (i : Nat)), some (.ref Ln), x5, x6, none, none, none]))
        ⟨Nat.zero_le _, e3, x5, x6, by rw [upd_ne hFL]; exact hF2, ?_, upd_same, rfl⟩ (fun _ _ _ _ _ => trivial) ?_ ?_
      · exact hR2.mono (Same.upd (same_new hLn))
      · rintro j x σ H4 H5 hj ⟨_, e4, x5', x6', hF4, hR4, hL4, rfl⟩ ⟨rfl, rfl⟩
        dsimp only [gName, tSeq, tAsg]
        rw [Int.zero_add]
        have hsA4 := same_t e4 hsA
        refine comp_pair_if (K := K) (walk_enumK (K := K) (k := true) (a := a) (xs := ls)) (fun k => k != j) (fun k => .list (((M.getD k []).eraseIdx i).map .int)) (by omega) (fun H' e => same_k e hsA4) (fun R r => ⟨_, rfl, true, a, ls, rfl, hsA4, r⟩) (fun x y => rfl) ?_ ?_
        · intro k x y D6 acc6 H6 A6 B6 hk e6 hD6 hL6 hx hy hA hB
          have hkM : k < M.length := by omega
          obtain ⟨tk, htk, hst⟩ := hrA k M[k] (List.getElem?_eq_getElem hkM)
          obtain rfl : V.int (k : Nat) = x := by simpa using hx
          have hy' : ls[k]? = some y := hy
          obtain rfl : y = .ref tk := by rw [hy'] at htk; exact Option.some.inj htk
          have eM : M.getD k [] = M[k] := by simp [hkM]
          have hrl : M[k].length = n := sM.row _ (List.getElem_mem hkM)
          rw [eM] at hA
          generalize M[k] = row at *
          have hst6 := same_t (e4.trans e6) hst
          refine ⟨_, rfl, _, rfl, rfl, _, rfl, ?_⟩
          by_cases ckj : k = j
          · subst ckj
            exact if_neg_of (by rw [dec_int]; simp) (hB (by simp) _ (Same.refl _))
          · refine if_pos_of (by rw [dec_int]; have := int_ne ckj; simp [this]) ?_
            have hA' := hA (by simpa using ckj)
            rw [tLc_eq]
            refine ⟨_, rfl, _, rfl, by omega, n62, ?_⟩
            rw [Int.toNat_natCast]
            unfold LcAt
            refine comp_rng_if (K := K) (walk_range (lo := 0) (n := n)) (fun c => c != i) (fun c => .int (row.getD c 0)) (by omega) (fun _ _ => trivial) (fun R q0 => q0) (fun x => rfl) ?_ ?_
            · intro c D7 acc7 H7 A7 B7 hc e7 hD7 hL7 hA7 hB7
              rw [Int.zero_add]
              refine ⟨_, rfl, _, rfl, rfl, _, rfl, ?_⟩
              by_cases cci : c = i
              · subst cci
                exact if_neg_of (by rw [dec_int]; simp) (hB7 (by simp) _ (Same.refl _))
              · refine if_pos_of (by rw [dec_int]; have := int_ne cci; simp [this]) ?_
                exact ⟨_, rfl, _, rfl, ix_k (k := true) (same_t e7 hst6) (irow_get (by omega)) (hA7 (by simpa using cci) _ _ (Same.refl _) fun u => .int _)⟩
            · intro D7 vs7 H7 e7 hD7 hL7 hj7
              have ed : ((List.range n).filter fun c => c != i).map (fun c => PyData.int (row.getD c 0)) = (row.eraseIdx i).map PyData.int := by
                rw [← erase_all 0 i row, hrl, List.map_map]
                rfl
              rw [ed] at hj7
              rw [jd_ints_inv _ _ hj7] at hL7
              exact hA' _ _ e7 fun u => lst_new hL6 hD7 hL7
        · intro D6 vs6 H6 e6 hD6 hL6 hj6
          have ed : ((List.range ls.length).filter fun k => k != j).map (fun k => PyData.list (((M.getD k []).eraseIdx i).map .int)) = (minorM M j i).map fun r => PyData.list (r.map .int) := by
            unfold minorM
            rw [← erase_all [] j M, ← hlA, List.map_map, List.map_map]
            rfl
          rw [ed] at hj6
          have hrows := jd_lsts hj6
          have hjn : j < n := hj
          have hsL6 : SqL K H6 Ln (irow ((List.range j).map fun j => lawAdjE M i j)) := .inl (.inl (e6 _ _ hL4))
          refine ⟨_, rfl, .inl ⟨rfl, _, hsL6⟩, _, rfl, D6, false, vs6, minorM M j i, n - 1, rfl, .inl (.inl hL6), hrows, minor_sq sM hjn hi hn2, by omega, hb.minor _ _, fun H7 e7 => ?_⟩
          have hL7 := e7 _ _ (e6 _ _ hL4)
          have efm : ((i : Int) + (j : Int)).fmod 2 = (((i + j) % 2 : Nat) : Int) := by
            rw [Int.fmod_eq_emod_of_nonneg _ (by decide)]; omega
          refine ⟨_, rfl, _, rfl, _, _, rfl, rfl, _, _, rfl, rfl, (show (2 : Int) ≠ 0 by decide), _, _, rfl, rfl, Or.inl ⟨by decide, by decide⟩, _, _, rfl, rfl, _, _, rfl, rfl, Wd.mul (hwd i j hi hjn) (Wd.unit ?_), Ln, _, _, rfl, rfl, hL7, ?_, ?_⟩
          · rw [efm]; omega
          · simp only [irow, List.length_map, List.length_range]
            exact Evl.sz_lt (by omega)
          · have e47 := e6.trans e7
            refine ⟨by omega, ?_, some (.int (j : Nat)), some (.ref D6), by rw [upd_ne hFL]; exact e47 _ _ hF4, ?_, ?_, rfl⟩
            · intro x o h
              rw [upd_ne (ne_of_none h hHL)]
              exact e47 x o (e4 x o h)
            · rw [upd_comm (Ne.symm hFL)]
              exact rows_put (hR4.mono (Same.upd e47)) (by rw [upd_ne (Ne.symm hFL)]; exact hL7)
            · rw [upd_same, range_snoc_map, efm]
              simp [irow, lawAdjE]
      · rintro σ H4 ⟨_, e4, x5', x6', hF4, hR4, hL4, rfl⟩
        rw [show (List.range n).map (fun j => lawAdjE M i j) = (List.range n).map (fun j => lawAdjE M i j) from rfl] at hL4
        have hsF : SqL K H4 F rs := .inl (.inl hF4)
        refine ⟨_, rfl, .inl ⟨rfl, _, hsF⟩, _, rfl, Ln, _, rfl, .inl ⟨.inl (.inl hL4), fun l hl => ⟨F, rs, _, rfl, rfl, same_new hl _ _ hF4, ?_, ?_⟩⟩⟩
        · have := hR4.1
          simp at this
          exact Evl.sz_lt (by omega)
        · have hlF : l ≠ F := fun e => by subst e; rw [hF4] at hl; cases hl
          refine ⟨hi, ?_, rs ++ [.ref l], _, _, _, _, upd_same, ?_, rfl⟩
          · intro x o h
            rw [upd_ne (ne_of_none h hHF)]
            exact same_new hl x o (e4 x o h)
          · have eu : upd (upd (upd H4 l (.tup (irow ((List.range n).map fun j => lawAdjE M i j)))) F (.lst (rs ++ [V.ref l]))) F (.tup []) = upd (upd H4 l (.tup (irow ((List.range n).map fun j => lawAdjE M i j)))) F (.tup []) := by
              funext x
              by_cases c : x = F
              · subst c; rw [upd_same, upd_same]
              · rw [upd_ne c, upd_ne c, upd_ne c]
            rw [eu, range_snoc_map]
            have h4 := hR4.mono (Same.upd (D := F) (u := .tup []) (same_new (o := .tup (irow ((List.range n).map fun j => lawAdjE M i j))) hl))
            have hrl := hR4.1
            refine ⟨by simp [hrl], fun k r hk => ?_⟩
            rcases Nat.lt_or_ge k i with c | c
            · rw [List.getElem?_append_left (by simpa using c)] at hk
              obtain ⟨t, h1, h2⟩ := h4.2 k r hk
              exact ⟨t, by rw [List.getElem?_append_left (by simp at hrl; omega)]; exact h1, h2⟩
            · rw [List.getElem?_append_right (by simpa using c)] at hk
              have hki : k = i := by
                have := (List.getElem?_eq_some_iff.mp hk).1
                simp at this; omega
              subst hki
              simp at hk
              subst hk
              refine ⟨l, ?_, .inl (.inl ?_)⟩
              · simp at hrl
                rw [List.getElem?_append_right (by omega)]
                simp [hrl]
              · rw [upd_ne hlF, upd_same]
    · rintro σ H2 ⟨_, e2, rs, x3, x4, x5, x6, hF2, hR2, rfl⟩
      have hsF : SqL K H2 F rs := .inl (.inl hF2)
      refine ⟨_, rfl, F, rs, rfl, .inl ⟨hsF, fun l hl => ?_⟩⟩
      have hM2 : lawAdj M = (List.range n).map fun i => (List.range n).map fun j => lawAdjE M i j := by unfold lawAdj; rw [hMn]
      have hR3 := rows_un hR2 fun r hr e => by
        simp only [List.mem_map, List.mem_range] at hr
        obtain ⟨k, _, rfl⟩ := hr
        have := congrArg List.length e
        simp at this; omega
      rw [← hM2] at hR3
      exact q _ _ (e2.trans (same_new hl)) ⟨l, rs, rfl, .inl (.inl upd_same), rows_mono (same_new hl) (rows_at' hR3)⟩
end
end K06

set_option maxHeartbeats 1000000
namespace My
open PySem PySem.Spec PyProof.Rows L2 ZN
section
variable {K : PySem.W.Frag} {H : Hp} {a : Addr} {xs : List V} {m : Nat} {Q : VK}
theorem slA_take (h : SqT K H a xs) (hm : m ≤ xs.length) (q : ∀ p H', Same H H' → SqT K H' p (xs.take m) → Q (.ref p) H') : rSlA K (.ref a) none (some (m : Int)) H Q := by
  have e1 : HT.sIx xs.length xs.length (some (m : Int)) = m := by rw [HT.sIx_nat, Nat.min_eq_left hm]
  refine ⟨a, xs, rfl, h, fun z => ?_, fun z p hp => ?_⟩
  · rw [e1] at z
    refine q a H (Same.refl _) ?_
    rw [List.take_of_length_le (by omega)]
    exact h
  · refine q p _ (same_new hp) (.inl (.inl ?_))
    rw [upd_same]
    unfold cutV
    rw [e1, HT.sIx_none, List.drop_zero, Nat.sub_zero]
/-- tuples of n integers, so great at most -/
def RowMem (K : PySem.W.Frag) (H : Hp) (n s : Nat) (xs : List V) : Prop := ∀ v ∈ xs, ∃ t r, v = .ref t ∧ SqT K H t (irow r) ∧ r.length = n ∧ Rb s r
theorem rowmem_rows {n s : Nat} : ∀ {xs : List V}, RowMem K H n s xs → ∃ rows : List (List Int), RowsK K H true xs rows ∧ ∀ r ∈ rows, r.length = n ∧ Rb s r
  | [], _ => ⟨[], ⟨rfl, fun j r hj => by simp at hj⟩, fun r hr => absurd hr List.not_mem_nil⟩
  | x :: xs, h => by
    obtain ⟨rows, h1, h2⟩ := rowmem_rows (xs := xs) fun v hv => h v (List.mem_cons_of_mem _ hv)
    obtain ⟨t, r, rfl, a1, a2, a3⟩ := h x List.mem_cons_self
    refine ⟨r :: rows, ⟨by simp [h1.1], fun j r' hj => ?_⟩, fun r' hr => ?_⟩
    · cases j with
      | zero => simp at hj; subst hj; exact ⟨t, rfl, a1⟩
      | succ j => simpa using h1.2 j r' (by simpa using hj)
    · rcases List.mem_cons.mp hr with rfl | hr
      · exact ⟨a2, a3⟩
      · exact h2 r' hr
theorem RowMem.mono {n s : Nat} {H' : Hp} (e : Same H H') (h : RowMem K H n s xs) : RowMem K H' n s xs := fun v hv => let ⟨t, r, h1, h2, h3⟩ := h v hv; ⟨t, r, h1, same_t e h2, h3⟩
theorem RowMem.but {n s : Nat} {b : Addr} {H' : Hp} (e : But b H H') (bag : Bag H b) (h : RowMem K H n s xs) : RowMem K H' n s xs := fun v hv => let ⟨t, r, h1, h2, h3⟩ := h v hv; ⟨t, r, h1, e.t bag h2, h3⟩
end
end My
namespace K06
open PySem PySem.Spec PyProof.Rows L2 My ZN
section
variable {P : Program} {w : World} {K : PySem.W.Frag} {mg : Str → Option Value} {base : Heap} {A : Adr}
def sp_is_positive (K : PySem.W.Frag) : Sp := fun vs H Q _ => ∃ v M n, vs = [v] ∧ MtAt K H true v M ∧ Sq n M ∧ N4 n ∧ Ab (2 ^ 201) M ∧ ∀ b H', Same H H' → Q (.bl b) H'
theorem irow_take (r : List Int) (m : Nat) : (irow r).take m = irow (r.take m) := by simp [irow, List.map_take]
theorem ok__law_is_positive (T : Txt K mg A) : FnOk P w K mg base CX0 2 A.a__law_is_positive A.d__law_is_positive ["_law_table"] (sp_is_positive K) := by
  have G__law_determinant : FnOk P w K mg base CX0 1 A.a__law_determinant A.d__law_determinant ["_law_rows"] (sp_law_det K) := ok__law_determinant T
  refine T.f__law_is_positive.ok sc__law_is_positive (fun vs H Q E h => ?_) (fun cdv B out t H vs Q E hr h => ?_)
  · obtain ⟨v, M, n, rfl, _⟩ := h
    rfl
  · obtain ⟨v, M, n, rfl, hM, sM, h4, hb, q⟩ := h
    refine ⟨_, (pss_cons (ps_for PassesOwn.never rfl (pi_range2 (by rfl) T.n_range (pa_cons pe_int (pa_cons (pe_op op_add (pe_callB call_len_seq (by rfl) T.n_len (by decide +kernel) (pa_cons (pv 0) pa_nil)) pe_int) pa_nil))) (pg_name (i := 1) sc__law_is_positive.nd rfl (Or.inr rfl)) (pss_one (ps_if (pt_cmpR op_le (pe_call G__law_determinant (hr.mono (by decide)) (by rfl) T.g__law_determinant T.f__law_determinant.kp (b__law_determinant T) .nil pass0 (pa_cons (pe_lc (own := [("_law_row", 2)]) (g := (gName 2)) (tt := tYes)  rfl sc__law_is_positive.nd (pi_tup (pe_slice sl_tupA (pv 0) po_none (po_some (pv 1)))) (blkOk_by (own := [("_law_row", 2)]) (N := names__law_is_positive) (sc := defScope s__law_is_positive) (by decide +kernel)) (fun _ _ _ _ _ => (pg_name (i := 2) sc__law_is_positive.nd rfl (Or.inl rfl))) (fun _ _ _ _ _ => pts_nil) (fun _ _ _ _ _ => by apply My.pe_eq; (case h => exact (pe_slice sl_tupA (pv 2) po_none (po_some (pv 1)))); all_goals (first | exact rfl | (dsimp only [L2.Cx.blk, L2.Cx.nox, L2.cxOf]; done) | (dsimp only [L2.Cx.blk, L2.Cx.nox, L2.cxOf]; exact rfl)))) pa_nil)) pe_int (nomark _)) (pss_one (ps_ret pe_bl)) pss_nil)))
      (pss_one (ps_ret pe_bl))), ?_⟩
    have hn2 := h4.two
    have hn4 := h4.four
    have hMn := sM.len
    obtain ⟨a, ls, rfl, hsA, hlA, hrA⟩ := hM.sq
    have hln : ls.length = n := by omega
    refine ⟨_, rfl, a, ls, rfl, .inr hsA, _, _, rfl, rfl, _, _, rfl, ⟨by omega, by omega, by omega, by omega⟩, ?_⟩
    have etn : (((ls.length : Nat) : Int) + 1 - 1).toNat = n := by omega
    rw [etn]
    refine for_it (walk_range (lo := 1) (n := n)) (fun i σ H' => i ≤ n ∧ Same H H' ∧ ∃ x1 : Option V, σ = [some (.ref a), x1, none]) ⟨Nat.zero_le _, Same.refl _, none, rfl⟩ (fun _ _ _ _ _ => trivial) ?_ ?_
    · rintro i x σ H2 H3 hi ⟨_, e2, x1, rfl⟩ ⟨rfl, rfl⟩
      dsimp only [gName]
      have ei : (1 : Int) + (i : Int) = ((i + 1 : Nat) : Int) := by omega
      rw [ei]
      generalize hm : i + 1 = m
      have hm1 : 1 ≤ m ∧ m ≤ n := by omega
      dsimp only [tIfS, tTest, tOp, tCall, tCons, tNil]
      rw [tLc_eq]
      refine ⟨_, rfl, _, rfl, _, rfl, slA_take (m := m) (same_t e2 hsA) (by omega) fun p H4 e4 hp => ⟨p, rfl, ⟨_, hp⟩, ?_⟩⟩
      have hpl : (ls.take m).length = m := by simp; omega
      unfold LcAt
      refine comp_one (K := K) (walk_tup (a := p) (xs := ls.take m)) (fun k => rowD ((M.getD k []).take m)) (by omega) (fun H' e => same_t e hp) (fun R r => r) (fun x => rfl) ?_ ?_
      · intro k x D6 acc6 H6 A6 hk e6 hD6 hL6 hx hA
        have hkM : k < M.length := by omega
        obtain ⟨tk, htk, hst⟩ := hrA k M[k] (List.getElem?_eq_getElem hkM)
        have hx' : ls[k]? = some x := by rw [List.getElem?_take_of_lt (by omega)] at hx; exact hx
        obtain rfl : x = .ref tk := by rw [hx'] at htk; exact Option.some.inj htk
        have eM : M.getD k [] = M[k] := by simp [hkM]
        have hrl : M[k].length = n := sM.row _ (List.getElem_mem hkM)
        rw [eM] at hA
        generalize M[k] = row at *
        have hst6 := same_t (e2.trans (e4.trans e6)) hst
        refine ⟨_, rfl, _, rfl, _, rfl, slA_take (m := m) hst6 (by simp only [irow, List.length_map]; omega) fun p7 H7 e7 hp7 => hA _ _ e7 fun u => row_jd (t_upd (e7 _ _ hL6) ?_)⟩
        rw [irow_take] at hp7
        exact hp7
      · intro D6 vs6 H6 e6 hD6 hL6 hj6
        have ed : (List.range (ls.take m).length).map (fun k => rowD ((M.getD k []).take m)) = ((M.take m).map fun r => r.take m).map rowD := by
          rw [hpl]
          apply List.ext_getElem
          · simp; omega
          · intro k h1 h2
            simp only [List.length_map, List.length_range] at h1
            have hkM : k < M.length := by omega
            simp [hkM]
        rw [ed] at hj6
        have hrows := rows_k (jd_rows hj6)
        have sq : Sq m ((M.take m).map fun r => r.take m) := by
          refine ⟨by simp; omega, fun r hr => ?_, by omega, by omega⟩
          obtain ⟨r0, h0, rfl⟩ := List.mem_map.mp hr
          have := sM.row r0 (List.mem_of_mem_take h0)
          simp; omega
        have ab : Ab (2 ^ 201) ((M.take m).map fun r => r.take m) := fun r hr x hx => by
          obtain ⟨r0, h0, rfl⟩ := List.mem_map.mp hr
          exact hb r0 (List.mem_of_mem_take h0) x (List.mem_of_mem_take hx)
        refine ⟨D6, true, vs6, _, m, rfl, .inl (.inl hL6), hrows, sq, by omega, ab, fun H7 e7 => ⟨_, _, rfl, rfl, _, rfl, ?_⟩⟩
        have e27 := e2.trans (e4.trans (e6.trans e7))
        exact ite2 (fun _ => q false H7 e27) fun _ => ⟨by omega, e27, _, rfl⟩
    · rintro σ H2 ⟨_, e2, x1, rfl⟩
      exact q true H2 e2
end
end K06

set_option maxHeartbeats 1000000
namespace K06
open PySem PySem.Spec PyProof.Rows L2 My ZN
section
variable {P : Program} {w : World} {K : PySem.W.Frag} {mg : Str → Option Value} {base : Heap} {A : Adr}
def TupOk (K : PySem.W.Frag) (n s : Nat) (_ : Nat) (H : Hp) (y : V) : Prop := ∃ t r, y = .ref t ∧ SqT K H t (irow r) ∧ r.length = n ∧ Rb s r
def IntOk (s : Nat) (_ : Nat) (_ : Hp) (y : V) : Prop := ∃ x : Int, y = .int x ∧ x.natAbs ≤ s
theorem ok_mem {n s : Nat} {H : Hp} {ys : List V} {D : Addr} (hL : H D = some (.lst ys)) (h : ∀ (k : Nat) y, ys[k]? = some y → ∀ u, TupOk K n s k (upd H D u) y) : RowMem K H n s ys := fun v hv => by
  obtain ⟨k, hk, rfl⟩ := List.getElem_of_mem hv
  have := h k _ (List.getElem?_eq_getElem hk) (.lst ys)
  have eu : upd H D (.lst ys) = H := by
    funext a
    by_cases c : a = D
    · subst c; rw [upd_same, hL]
    · rw [upd_ne c]
  rw [eu] at this
  exact this
theorem ok_ints {s : Nat} {H : Hp} {ys : List V} {D : Addr} (h : ∀ (k : Nat) y, ys[k]? = some y → ∀ u, IntOk s k (upd H D u) y) : ∃ ns : List Int, ys = ns.map V.int ∧ Rb s ns := by
  obtain ⟨ns, h1, h2⟩ := oks_ints (z := s) ys fun y hy => by
    obtain ⟨k, hk, rfl⟩ := List.getElem_of_mem hy
    exact h k _ (List.getElem?_eq_getElem hk) (.lst [])
  exact ⟨ns, h1, h2⟩
def sp_plain_rays (K : PySem.W.Frag) : Sp := fun vs H Q _ => ∃ n : Nat, vs = [.int (n : Nat)] ∧ N4 n ∧ ∀ D xs H', Same H H' → H D = none → H' D = some (.lst xs) → RowMem K H' n 1 xs → xs.length < 100 → n ≤ xs.length → Q (.ref D) H'
theorem ok__law_plain_rays (T : Txt K mg A) : FnOk P w K mg base CX0 1 A.a__law_plain_rays A.d__law_plain_rays ["_law_size_here"] (sp_plain_rays K) := by
  refine T.f__law_plain_rays.ok sc__law_plain_rays (fun vs H Q E h => ?_) (fun cdv B out t H vs Q E hr h => ?_)
  · obtain ⟨n, rfl, _⟩ := h
    rfl
  · obtain ⟨n, rfl, h4, q⟩ := h
    refine ⟨_, (pss_cons (ps_setLc (i := 1) (own := [("_law_at", 3)]) (g := (gName 3)) (tt := tYes)  rfl sc__law_plain_rays.nd rfl rfl (sw_true rfl rfl rfl (by decide +kernel)) (pi_range1 (by rfl) T.n_range (pa_cons (pv 0) pa_nil)) (blkOk_by (own := [("_law_at", 3)]) (N := names__law_plain_rays) (sc := defScope s__law_plain_rays) (by decide +kernel)) (fun _ _ _ _ _ => (pg_name (i := 3) sc__law_plain_rays.nd rfl (Or.inr rfl))) (fun _ _ _ _ _ => pts_nil) (fun _ _ _ _ _ => by apply My.pe_eq; (case h => exact (pe_callTy call_tuple_of (by rfl) T.n_tuple (by decide +kernel) (pa_cons (by exact (pe_lc (own := [("_law_to", 2)]) (g := (gName 2)) (tt := tYes)  rfl sc__law_plain_rays.nd (pi_range1 (by rfl) T.n_range (pa_cons (pv 0) pa_nil)) (by (exact L2.blkOk_by (by kernel_rfl))) (fun _ _ _ _ _ => (pg_name (i := 2) sc__law_plain_rays.nd rfl (Or.inl rfl))) (fun _ _ _ _ _ => pts_nil) (fun _ _ _ _ _ => by apply My.pe_eq; (case h => exact (pe_callTy call_int1 (by rfl) T.n_int (by decide +kernel) (pa_cons (pe_cmpR op_eq (pv 3) (pv 2) (nomark _)) pa_nil))); all_goals (first | exact rfl | (dsimp only [L2.Cx.blk, L2.Cx.nox, L2.cxOf]; done) | (dsimp only [L2.Cx.blk, L2.Cx.nox, L2.cxOf]; exact rfl))))) pa_nil))); all_goals (first | exact rfl | (dsimp only [L2.Cx.blk, L2.Cx.nox, L2.cxOf]; done) | (dsimp only [L2.Cx.blk, L2.Cx.nox, L2.cxOf]; exact rfl))))
      (pss_cons (ps_for PassesOwn.never rfl (pi_range1 (by rfl) T.n_range (pa_cons (pv 0) pa_nil)) (pg_name (i := 3) sc__law_plain_rays.nd rfl (Or.inr rfl)) (pss_one (ps_set (i := 1) sc__law_plain_rays.nd rfl (Or.inl rfl) (pe_op op_cat (pv 1) (pe_lc (own := [("_law_to", 2)]) (g := (gName 2)) (tt := tYes)  rfl sc__law_plain_rays.nd (pi_range2 (by rfl) T.n_range (pa_cons (pe_op op_add (pv 3) pe_int) (pa_cons (pv 0) pa_nil))) (blkOk_by (own := [("_law_to", 2)]) (N := names__law_plain_rays) (sc := defScope s__law_plain_rays) (by decide +kernel)) (fun _ _ _ _ _ => (pg_name (i := 2) sc__law_plain_rays.nd rfl (Or.inr rfl))) (fun _ _ _ _ _ => pts_nil) (fun _ _ _ _ _ => by apply My.pe_eq; (case h => exact (pe_callTy call_tuple_of (by rfl) T.n_tuple (by decide +kernel) (pa_cons (by exact (pe_lc (own := [("_law_place", 4)]) (g := (gName 4)) (tt := tYes)  rfl sc__law_plain_rays.nd (pi_range1 (by rfl) T.n_range (pa_cons (pv 0) pa_nil)) (by (exact L2.blkOk_by (by kernel_rfl))) (fun _ _ _ _ _ => (pg_name (i := 4) sc__law_plain_rays.nd rfl (Or.inl rfl))) (fun _ _ _ _ _ => pts_nil) (fun _ _ _ _ _ => by apply My.pe_eq; (case h => exact (pe_op op_sub (pe_callTy call_int1 (by rfl) T.n_int (by decide +kernel) (pa_cons (pe_cmpR op_eq (pv 4) (pv 3) (nomark _)) pa_nil)) (pe_callTy call_int1 (by rfl) T.n_int (by decide +kernel) (pa_cons (pe_cmpR op_eq (pv 4) (pv 2) (nomark _)) pa_nil)))); all_goals (first | exact rfl | (dsimp only [L2.Cx.blk, L2.Cx.nox, L2.cxOf]; done) | (dsimp only [L2.Cx.blk, L2.Cx.nox, L2.cxOf]; exact rfl))))) pa_nil))); all_goals (first | exact rfl | (dsimp only [L2.Cx.blk, L2.Cx.nox, L2.cxOf]; done) | (dsimp only [L2.Cx.blk, L2.Cx.nox, L2.cxOf]; exact rfl))))))))
      (pss_one (ps_ret (pv 1))))), ?_⟩
    have hn2 := h4.two
    have hn4 := h4.four
    have n62 : ((n : Nat) : Int) < 2 ^ 62 := by omega
    dsimp only [gName, tSeq, tAsg]
    rw [tLc_eq]
    refine ⟨_, rfl, _, rfl, by omega, n62, ?_⟩
    rw [Int.toNat_natCast]
    unfold LcAt
    refine comp_ok (walk_range (lo := 0) (n := n)) (fun k x => x = .int (0 + (k : Int))) (fun k H1 x H2 hy => hy) (TupOk K n 1) (fun k H1 H2 y e h => let ⟨t, r, h1, h2, h3⟩ := h; ⟨t, r, h1, same_t e h2, h3⟩) (by omega) (fun _ _ => trivial) (fun R q0 => q0) (fun x => rfl) ?_ ?_
    · rintro k x D acc H1 Q' hk rfl e1 hD hL hq
      dsimp only [tCB, tCons, tNil]
      rw [tLc_eq]
      refine ⟨_, rfl, _, rfl, by omega, n62, ?_⟩
      rw [Int.toNat_natCast]
      unfold LcAt
      refine comp_ok (walk_range (lo := 0) (n := n)) (fun k x => x = .int (0 + (k : Int))) (fun k H1 x H2 hy => hy) (IntOk 1) (fun k H1 H2 y e h => h) (by omega) (fun _ _ => trivial) (fun R q0 => q0) (fun x => rfl) ?_ ?_
      · rintro k2 x2 D2 acc2 H2 Q2 hk2 rfl e2 hD2 hL2 hq2
        exact ⟨_, rfl, _, rfl, rfl, Or.inr ⟨_, rfl, hq2 _ _ (Same.refl _) fun u => ⟨_, rfl, by split <;> decide⟩⟩⟩
      · intro D2 ys H2 e2 hD2 hl hok hL2
        obtain ⟨ns, rfl, hns⟩ := ok_ints hok
        exact ⟨D2, _, rfl, .inl ⟨.inl (.inl hL2), fun l hl2 => hq _ _ (e2.trans (same_new hl2)) fun u => ⟨l, ns, rfl, t_upd (same_new hl2 _ _ (e2 _ _ hL)) (.inl (.inl upd_same)), by simpa using hl, hns⟩⟩⟩
    · intro D ys H1 e1 hD hl hok hL
      have hmem := ok_mem hL hok
      refine ⟨_, rfl, _, rfl, by omega, n62, ?_⟩
      rw [Int.toNat_natCast]
      refine for_it (walk_range (lo := 0) (n := n)) (fun i σ H' => i ≤ n ∧ Same H H' ∧ ∃ (F : Addr) (xs : List V) (x3 : Option V), H F = none ∧ H' F = some (.lst xs) ∧ RowMem K H' n 1 xs ∧ n ≤ xs.length ∧ xs.length ≤ n + i * n ∧ σ = [some (.int (n : Nat)), some (.ref F), none, x3, none])
        ⟨Nat.zero_le _, e1, D, ys, none, hD, hL, hmem, by omega, by omega, rfl⟩ (fun _ _ _ _ _ => trivial) ?_ ?_
      · rintro i x σ H2 H3 hi ⟨_, e2, F, xs, x3, hF, hFL, hm, hx1, hx2, rfl⟩ ⟨rfl, rfl⟩
        dsimp only [gName, tSeq, tAsg, tOp]
        rw [Int.zero_add]
        refine ⟨_, rfl, ?_⟩
        dsimp only
        rw [tLc_eq]
        refine ⟨_, rfl, _, _, rfl, rfl, _, rfl, _, _, rfl, ⟨by omega, by omega, by omega, n62⟩, ?_⟩
        unfold LcAt
        refine comp_ok (walk_range (lo := (i : Int) + 1) (n := ((n : Int) - ((i : Int) + 1)).toNat)) (fun k x => ∃ z : Int, x = .int z) (fun k H1 x H2 hy => ⟨hy.1, _, hy.2⟩) (TupOk K n 1) (fun k H1 H2 y e h => let ⟨t, r, h1, h2, h3⟩ := h; ⟨t, r, h1, same_t e h2, h3⟩) (by omega) (fun _ _ => trivial) (fun R q0 => q0) (fun x => rfl) ?_ ?_
        · rintro k x D3 acc H4 Q' hk ⟨z, rfl⟩ e4 hD3 hL3 hq
          dsimp only [tCB, tCons, tNil]
          rw [tLc_eq]
          refine ⟨_, rfl, _, rfl, by omega, n62, ?_⟩
          rw [Int.toNat_natCast]
          unfold LcAt
          refine comp_ok (walk_range (lo := 0) (n := n)) (fun k x => x = .int (0 + (k : Int))) (fun k H1 x H2 hy => hy) (IntOk 1) (fun k H1 H2 y e h => h) (by omega) (fun _ _ => trivial) (fun R q0 => q0) (fun x => rfl) ?_ ?_
          · rintro k2 x2 D2 acc2 H5 Q2 hk2 rfl e5 hD2 hL2 hq2
            exact ⟨_, rfl, _, rfl, rfl, Or.inr ⟨_, rfl, _, rfl, _, rfl, rfl, Or.inr ⟨_, rfl, _, _, rfl, rfl, hq2 _ _ (Same.refl _) fun u => ⟨_, rfl, by split <;> split <;> decide⟩⟩⟩⟩
          · intro D2 ys2 H5 e5 hD2 hl hok hL2
            obtain ⟨ns, rfl, hns⟩ := ok_ints hok
            exact ⟨D2, _, rfl, .inl ⟨.inl (.inl hL2), fun l hl2 => hq _ _ (e5.trans (same_new hl2)) fun u => ⟨l, ns, rfl, t_upd (same_new hl2 _ _ (e5 _ _ hL3)) (.inl (.inl upd_same)), by simpa using hl, hns⟩⟩⟩
        · intro D3 ys3 H4 e4 hD3 hl3 hok3 hL3
          have hm3 := ok_mem hL3 hok3
          have hF4 := e4 _ _ hFL
          have bnd2 : n + i * n + n = n + (i + 1) * n := by rw [Nat.add_mul]; omega
          have inn : (i + 1) * n ≤ 4 * 4 := Nat.mul_le_mul (by omega) hn4
          refine ⟨F, D3, xs, ys3, rfl, rfl, hF4, hL3, by rw [sizeLine_eq]; omega, fun p hp => ?_⟩
          have e5 := e2.trans (e4.trans (same_new (o := .lst (xs ++ ys3)) hp))
          refine ⟨hi, e5, p, xs ++ ys3, _, none_of_same (e2.trans e4) hp, upd_same, ?_, by simp; omega, by simp; omega, rfl⟩
          intro v hv
          rcases List.mem_append.mp hv with hv | hv
          · exact (hm.mono (e4.trans (same_new hp))) v hv
          · exact (hm3.mono (same_new hp)) v hv
      · rintro σ H2 ⟨_, e2, F, xs, x3, hF, hFL, hm, hx1, hx2, rfl⟩
        have inn : n * n ≤ 4 * 4 := Nat.mul_le_mul hn4 hn4
        exact ⟨_, rfl, q F xs H2 e2 hF hFL hm (by omega) hx1⟩
end
end K06

set_option maxHeartbeats 1000000
namespace K06
open PySem PySem.Spec PyProof.Rows L2 My ZN
section
variable {P : Program} {w : World} {K : PySem.W.Frag} {mg : Str → Option Value} {base : Heap} {A : Adr}
def sumE (R : List (List Int)) (W : List Int) (i j : Nat) : Int := (List.zipWith (fun r w => w * r.getD i 0 * r.getD j 0) R W).sum
theorem sumE_sym (R : List (List Int)) (W : List Int) (i j : Nat) : sumE R W i j = sumE R W j i := by
  unfold sumE
  congr 1
  congr 1
  funext r w
  rw [Int.mul_assoc, Int.mul_comm (r.getD i 0), Int.mul_assoc]
theorem sumE_abs {s : Nat} : ∀ {R : List (List Int)} {W : List Int} {i j : Nat}, (∀ r ∈ R, Rb s r) → Rb s W → (sumE R W i j).natAbs ≤ R.length * (s * s * s)
  | [], _, _, _, _, _ => by simp [sumE]
  | r :: R, [], _, _, _, _ => by simp [sumE]
  | r :: R, w :: W, i, j, h, g => by
    have ih := sumE_abs (R := R) (W := W) (i := i) (j := j) (fun r' hr => h r' (List.mem_cons_of_mem _ hr)) fun x hx => g x (List.mem_cons_of_mem _ hx)
    have h0 := h r List.mem_cons_self
    have e : sumE (r :: R) (w :: W) i j = w * r.getD i 0 * r.getD j 0 + sumE R W i j := by simp [sumE]
    rw [e, List.length_cons, Nat.succ_mul]
    have := add_abs (mul_abs (mul_abs (g w List.mem_cons_self) (h0.get i)) (h0.get j)) ih
    omega
def sp_summed (K : PySem.W.Frag) : Sp := fun vs H Q _ => ∃ (n : Nat) (Ra Wa : Addr) (xs : List V) (W : List Int), vs = [.int (n : Nat), .ref Ra, .ref Wa] ∧ N4 n ∧ SqL K H Ra xs ∧ RowMem K H n 5 xs ∧ SqL K H Wa (irow W) ∧ Rb 5 W ∧ xs.length ≤ 1000 ∧
  ∀ v M H', Same H H' → MtAt K H' true v M → Sq n M → Sy n M → Ab 125000 M → Q v H'
theorem ok__law_summed (T : Txt K mg A) : FnOk P w K mg base CX0 1 A.a__law_summed A.d__law_summed ["_law_size_here", "_law_rows", "_law_weights"] (sp_summed K) := by
  refine T.f__law_summed.ok sc__law_summed (fun vs H Q E h => ?_) (fun cdv B out t H vs Q E hr h => ?_)
  · obtain ⟨n, Ra, Wa, xs, W, rfl, _⟩ := h
    rfl
  · obtain ⟨n, Ra, Wa, xs, W, rfl, h4, hRa, hmem, hWa, hW, hz, q⟩ := h
    refine ⟨_, (pss_cons (ps_set (i := 3) sc__law_summed.nd rfl (Or.inl rfl) (pe_lst pa_nil))
      (pss_cons (ps_for PassesOwn.never rfl (pi_range1 (by rfl) T.n_range (pa_cons (pv 0) pa_nil)) (pg_name (i := 4) sc__law_summed.nd rfl (Or.inr rfl)) (pss_one (ps_expr (pe_bm PySem.F.plainAttrs_list PySem.F.slot_list_append PySem.F.type_list_append mt_append (pv 3) (pa_cons (pe_callTy call_tuple_of (by rfl) T.n_tuple (by decide +kernel) (pa_cons (pe_lc (own := [("_law_to", 7)]) (g := (gName 7)) (tt := tYes)  rfl sc__law_summed.nd (pi_range1 (by rfl) T.n_range (pa_cons (pv 0) pa_nil)) (blkOk_by (own := [("_law_to", 7)]) (N := names__law_summed) (sc := defScope s__law_summed) (by decide +kernel)) (fun _ _ _ _ _ => (pg_name (i := 7) sc__law_summed.nd rfl (Or.inr rfl))) (fun _ _ _ _ _ => pts_nil) (fun _ _ _ _ _ => by apply My.pe_eq; (case h => exact (pe_callB (cr_sum rfl) (by rfl) T.n_sum (by decide +kernel) (pa_cons (by exact (pe_lc (own := [("_law_row", 5), ("_law_weight", 6)]) (g := (gTup K 2 (gCons (gName 5) (gCons (gName 6) gNil)))) (tt := tYes)  rfl sc__law_summed.nd (ZN.pi_zip2 (by rfl) T.n_zip (pa_cons (pv 1) (pa_cons (pv 2) pa_nil))) (by (exact L2.blkOk_by (by kernel_rfl))) (fun _ _ _ _ _ => (pg_tup (by rfl) (pgs_cons (pg_name (i := 5) sc__law_summed.nd rfl (Or.inl rfl)) (pgs_cons (pg_name (i := 6) sc__law_summed.nd rfl (Or.inl rfl)) pgs_nil)))) (fun _ _ _ _ _ => pts_nil) (fun _ _ _ _ _ => by apply My.pe_eq; (case h => exact (pe_op op_mulW (pe_op op_mulW (pv 6) (pe_ix ix_seq (pv 5) (pv 4) (fun _ _ => rfl))) (pe_ix ix_seq (pv 5) (pv 7) (fun _ _ => rfl)))); all_goals (first | exact rfl | (dsimp only [L2.Cx.blk, L2.Cx.nox, L2.cxOf]; done) | (dsimp only [L2.Cx.blk, L2.Cx.nox, L2.cxOf]; exact rfl))))) pa_nil))); all_goals (first | exact rfl | (dsimp only [L2.Cx.blk, L2.Cx.nox, L2.cxOf]; done) | (dsimp only [L2.Cx.blk, L2.Cx.nox, L2.cxOf]; exact rfl)))) pa_nil)) pa_nil)))))
      (pss_one (ps_ret (pe_callTy call_tuple_of (by rfl) T.n_tuple (by decide +kernel) (pa_cons (pv 3) pa_nil)))))), ?_⟩
    have hn2 := h4.two
    have hn4 := h4.four
    have n62 : ((n : Nat) : Int) < 2 ^ 62 := by omega
    obtain ⟨R, hR, hRn⟩ := rowmem_rows hmem
    have hxl : xs.length = R.length := hR.1
    have hRb : ∀ r ∈ R, Rb 5 r := fun r hr => (hRn r hr).2
    refine ⟨by show 0 ≤ sizeLine; decide, fun F hF => ?_⟩
    have e1 := same_new (o := .lst []) hF
    refine ⟨_, rfl, _, rfl, by omega, n62, ?_⟩
    rw [Int.toNat_natCast]
    refine for_it (walk_range (lo := 0) (n := n)) (fun i σ H' => i ≤ n ∧ Same H H' ∧ ∃ (rs : List V) (x4 : Option V), H' F = some (.lst rs) ∧ RowsK K (upd H' F (.tup [])) true rs ((List.range i).map fun i => (List.range n).map fun j => sumE R W i j) ∧
      σ = [some (.int (n : Nat)), some (.ref Ra), some (.ref Wa), some (.ref F), x4, none, none, none])
      ⟨Nat.zero_le _, e1, [], none, upd_same, ⟨rfl, fun j r e => by simp at e⟩, rfl⟩ (fun _ _ _ _ _ => trivial) ?_ ?_
    · rintro i x σ H2 H3 hi ⟨_, e2, rs, x4, hF2, hR2, rfl⟩ ⟨rfl, rfl⟩
      have hsF : SqL K _ F rs := .inl (.inl hF2)
      refine ⟨_, rfl, .inl ⟨rfl, _, hsF⟩, ?_⟩
      dsimp only [gName, tCB, tCons, tNil]
      rw [Int.zero_add, tLc_eq]
      refine ⟨_, rfl, _, rfl, by omega, n62, ?_⟩
      rw [Int.toNat_natCast]
      unfold LcAt
      refine comp_rng (K := K) (walk_range (lo := 0) (n := n)) (fun j => .int (sumE R W i j)) (by omega) (fun _ _ => trivial) (fun R q0 => q0) (fun x => rfl) ?_ ?_
      · intro j D acc H4 A4 hj e4 hD hL hA
        rw [Int.zero_add]
        have e24 := e2.trans e4
        dsimp only [tCB, tCons, tNil]
        refine comp_pair (K := K) (walk_zip2 (k1 := false) (k2 := false) (a := Ra) (b := Wa) (xs := xs) (ys := irow W) rfl) (fun k => .int (W.getD k 0 * (R.getD k []).getD i 0 * (R.getD k []).getD j 0)) (by omega)
          (fun H' e => ⟨same_l (e24.trans e) hRa, same_l (e24.trans e) hWa⟩) (fun R r => ⟨_, rfl, _, rfl, false, false, Ra, Wa, _, _, rfl, same_l e24 hRa, same_l e24 hWa, r⟩) (fun x y => rfl) ?_ ?_
        · intro k x y D5 acc5 H5 A5 hk e5 hD5 hL5 hx hy hA5
          obtain ⟨hk2, rfl⟩ := irow_get' hy
          have hkR : k < R.length := by omega
          obtain ⟨tk, htk, hst⟩ := hR.get hkR
          have hx' : xs[k]? = some x := hx
          obtain rfl : x = .ref tk := by rw [hx'] at htk; exact Option.some.inj htk
          have eR : R.getD k [] = R[k] := by simp [hkR]
          have hrl := (hRn _ (List.getElem_mem hkR)).1
          have hrb := (hRn _ (List.getElem_mem hkR)).2
          rw [eR] at hst hA5
          generalize R[k] = row at *
          have hst5 := same_t (e24.trans e5) hst
          refine ⟨_, rfl, _, rfl, _, rfl, ix_k (k := true) hst5 (irow_get (by omega)) ⟨_, _, rfl, rfl, Wd.mul (bb_wd (hW.get _)) (bb_wd (hrb.get _)), _, rfl, _, rfl, ix_k (k := true) hst5 (irow_get (by omega)) ⟨_, _, rfl, rfl, Wd.mul (bb_wd (mul_abs (hW.get _) (hrb.get _))) (bb_wd (hrb.get _)), hA5 _ _ (Same.refl _) fun u => .int _⟩⟩⟩
        · intro D5 ys5 H5 e5 hD5 hL5 hj5
          have ed : (List.range (min xs.length (irow W).length)).map (fun k => PyData.int (W.getD k 0 * (R.getD k []).getD i 0 * (R.getD k []).getD j 0)) = (List.zipWith (fun r w => w * r.getD i 0 * r.getD j 0) R W).map PyData.int := by
            apply List.ext_getElem
            · simp [irow, hxl]
            · intro k h1 h2
              simp only [List.length_map, List.length_range, irow] at h1
              have hkR : k < R.length := by omega
              have hkW : k < W.length := by omega
              simp [hkR, hkW]
          rw [ed] at hj5
          rw [jd_ints_inv _ _ hj5] at hL5
          exact ⟨D5, _, rfl, .inl (.inl hL5), hA _ _ e5 fun u => .int _⟩
      · intro D ys H4 e4 hD hL hj
        have hj2 : JdAll K H4 ys (((List.range n).map fun j => sumE R W i j).map PyData.int) := by simpa [List.map_map, Function.comp_def] using hj
        rw [jd_ints_inv _ _ hj2] at hL
        have hF4 := e4 _ _ hF2
        refine ⟨D, _, rfl, .inl ⟨.inl (.inl hL), fun l hl => ⟨F, rs, _, rfl, rfl, same_new hl _ _ hF4, ?_, ?_⟩⟩⟩
        · have := hR2.1
          simp at this
          exact Evl.sz_lt (by omega)
        · have hlF : l ≠ F := fun e => by subst e; rw [hF4] at hl; cases hl
          refine ⟨hi, ?_, rs ++ [.ref l], _, upd_same, ?_, rfl⟩
          · intro x o h
            rw [upd_ne (ne_of_none h hF)]
            exact same_new hl x o (e4 x o (e2 x o h))
          · have eu : upd (upd (upd H4 l (.tup (irow ((List.range n).map fun j => sumE R W i j)))) F (.lst (rs ++ [V.ref l]))) F (.tup []) = upd (upd H4 l (.tup (irow ((List.range n).map fun j => sumE R W i j)))) F (.tup []) := by
              funext x
              by_cases c : x = F
              · subst c; rw [upd_same, upd_same]
              · rw [upd_ne c, upd_ne c, upd_ne c]
            have h4 := hR2.mono (Same.upd (D := F) (u := .tup []) (e4.trans (same_new (o := .tup (irow ((List.range n).map fun j => sumE R W i j))) hl)))
            show RowsK K (upd (upd (upd H4 l (.tup (irow ((List.range n).map fun j => sumE R W i j)))) F (.lst (rs ++ [V.ref l]))) F (.tup [])) true _ _
            rw [eu, range_snoc_map]
            have hrl := hR2.1
            refine ⟨by simp [hrl], fun k r hk => ?_⟩
            rcases Nat.lt_or_ge k i with c | c
            · rw [List.getElem?_append_left (by simpa using c)] at hk
              obtain ⟨t, h1, h2⟩ := h4.2 k r hk
              exact ⟨t, by rw [List.getElem?_append_left (by simp at hrl; omega)]; exact h1, h2⟩
            · rw [List.getElem?_append_right (by simpa using c)] at hk
              have hki : k = i := by
                have := (List.getElem?_eq_some_iff.mp hk).1
                simp at this; omega
              subst hki
              simp at hk
              subst hk
              refine ⟨l, ?_, .inl (.inl ?_)⟩
              · simp at hrl
                rw [List.getElem?_append_right (by omega)]
                simp [hrl]
              · rw [upd_ne hlF, upd_same]
    · rintro σ H2 ⟨_, e2, rs, x4, hF2, hR2, rfl⟩
      have hsF : SqL K H2 F rs := .inl (.inl hF2)
      refine ⟨_, rfl, F, rs, rfl, .inl ⟨hsF, fun l hl => ?_⟩⟩
      have hR3 := rows_un hR2 fun r hr e => by
        simp only [List.mem_map, List.mem_range] at hr
        obtain ⟨k, _, rfl⟩ := hr
        have := congrArg List.length e
        simp at this; omega
      refine q _ (mkM n (sumE R W)) _ (e2.trans (same_new hl)) ⟨l, rs, rfl, .inl (.inl upd_same), rows_mono (same_new hl) (rows_at' hR3)⟩ (mkM_sq (by omega) (by omega)) (mk_sym (by omega) (by omega) (sumE_sym R W)) (mk_ab (by omega) (by omega) fun i j _ _ => ?_)
      exact Nat.le_trans (sumE_abs hRb hW) (Nat.le_trans (Nat.mul_le_mul_right _ (by omega : R.length ≤ 1000)) (by decide))
end
end K06

set_option maxHeartbeats 1000000
namespace K06
open PySem PySem.Spec PyProof.Rows L2 My ZN
section
variable {P : Program} {w : World} {K : PySem.W.Frag} {mg : Str → Option Value} {base : Heap} {A : Adr}
theorem told_adj {n : Nat} {M : List (List Int)} (h : Told n M) : Sq n (lawAdj M) ∧ Sy n (lawAdj M) ∧ Ab 100 (lawAdj M) ∧ ∀ i j, i < n → j < n → Wd (lawDet (minorM M j i)) := by
  have key : ∀ n (M : List (List Int)), 0 < n → n < 100000 → (lawAdj M).length = n → (∀ r ∈ lawAdj M, r.length = n) → trM n (lawAdj M) = lawAdj M → (∀ r ∈ lawAdj M, ∀ x ∈ r, x.natAbs ≤ 100) → (∀ i, i < n → ∀ j, j < n → (lawDet (minorM M j i)).natAbs ≤ 100) →
      Sq n (lawAdj M) ∧ Sy n (lawAdj M) ∧ Ab 100 (lawAdj M) ∧ ∀ i j, i < n → j < n → Wd (lawDet (minorM M j i)) := fun n M a b c d e f g => ⟨⟨c, d, a, b⟩, e, f, fun i j hi hj => bb_wd (g i hi j hj)⟩
  rcases h with ⟨rfl | rfl | rfl, rfl⟩ | ⟨rfl, rfl⟩ <;> exact key _ _ (by decide) (by decide) (by decide +kernel) (by decide +kernel) (by decide +kernel) (by decide +kernel) (by decide +kernel)
/-- a tuple of n integers, so great at most, whatever is drawn -/
def TupB (K : PySem.W.Frag) (b : Addr) (n s : Nat) (_ : Nat) (H : Hp) (y : V) : Prop := ∃ t r, y = .ref t ∧ (∀ H', But b H H' → SqT K H' t (irow r)) ∧ r.length = n ∧ Rb s r
theorem TupB.mono {b : Addr} {n s k : Nat} {H1 H2 : Hp} {y : V} (e : But b H1 H2) (h : TupB K b n s k H1 y) : TupB K b n s k H2 y :=
  let ⟨t, r, h1, h2, h3⟩ := h; ⟨t, r, h1, fun H' e' => h2 H' (e.trans e'), h3⟩
def BG : Nat := 125000
section
variable {n : Nat} {S U : List (List Int)} {f : Int}
theorem plusM_sq (s : Sq n S) (u : Sq n U) : Sq n (plusM S U f) := by
  refine ⟨by simp [plusM, s.len, u.len], fun r hr => ?_, s.pos, s.few⟩
  obtain ⟨k, hk, rfl⟩ := List.getElem_of_mem hr
  simp only [plusM, List.length_zipWith] at hk
  simp only [plusM, List.getElem_zipWith]
  exact addR_len (s.row _ (List.getElem_mem _)) (u.row _ (List.getElem_mem _))
theorem en_plus (s : Sq n S) (u : Sq n U) {i j : Nat} (hi : i < n) (hj : j < n) : en (plusM S U f) i j = en S i j + f * en U i j := by
  have h1 : i < S.length := by rw [s.len]; exact hi
  have h2 : i < U.length := by rw [u.len]; exact hi
  have e : (plusM S U f).getD i [] = addR f (S.getD i []) (U.getD i []) := by simp [plusM, h1, h2, List.getElem?_zipWith]
  unfold en
  rw [e, addR_get (row_of s hi) (row_of u hi) hj]
theorem plusM_sy (s : Sq n S) (u : Sq n U) (hs : Sy n S) (hu : Sy n U) : Sy n (plusM S U f) := by
  have p := plusM_sq (f := f) s u
  refine Sq.ext p.tr p fun i j hi hj => ?_
  have a : en S j i = en S i j := by
    have := en_tr s hi hj
    rw [show trM n S = S from hs] at this
    exact this.symm
  have b : en U j i = en U i j := by
    have := en_tr u hi hj
    rw [show trM n U = U from hu] at this
    exact this.symm
  rw [en_tr p hi hj, en_plus s u hj hi, en_plus s u hi hj, a, b]
theorem plusM_ab {x y : Nat} (s : Sq n S) (u : Sq n U) (hs : Ab x S) (hu : Ab y U) : Ab (x + f.natAbs * y) (plusM S U f) :=
  Ab.of (plusM_sq s u) fun i j hi hj => by rw [en_plus s u hi hj]; exact add_abs (hs.en i j) (mul_abs (Nat.le_refl _) (hu.en i j))
end
def sp_begun (K : PySem.W.Frag) : Sp := fun vs H Q _ => ∃ (b : Addr) (n : Nat), vs = [.ref b, .int (n : Nat)] ∧ Bag H b ∧ N4 n ∧ ∀ v M H', MtAt K H' true v M → Sq n M → Sy n M → Ab BG M → But b H H' → Bag H' b → Q v H'
theorem ok__law_begun (T : Txt K mg A) : FnOk P w K mg base CX0 4 A.a__law_begun A.d__law_begun ["_law_bag_here", "_law_size_here"] (sp_begun K) := by
  have G__law_grab : FnOk P w K mg base CX0 1 A.a__law_grab A.d__law_grab ["_law_bag_here", "_law_total"] sp_grab := ok__law_grab T
  have G__law_one_of : FnOk P w K mg base CX0 2 A.a__law_one_of A.d__law_one_of ["_law_bag_here", "_law_items"] (sp_one_of K) := ok__law_one_of T
  have G__law_mixed : FnOk P w K mg base CX0 2 A.a__law_mixed A.d__law_mixed ["_law_bag_here", "_law_items"] (sp_mixed K) := ok__law_mixed T
  have G__law_some_row : FnOk P w K mg base CX0 3 A.a__law_some_row A.d__law_some_row ["_law_bag_here", "_law_size_here", "_law_spread"] (sp_some_row K) := ok__law_some_row T
  have G__law_some_table : FnOk P w K mg base CX0 3 A.a__law_some_table A.d__law_some_table ["_law_bag_here", "_law_size_here", "_law_spread"] (sp_some_table K) := ok__law_some_table T
  have G__law_names : FnOk P w K mg base CX0 1 A.a__law_names A.d__law_names ["_law_size_here"] (sp_names K) := ok__law_names T
  have G__law_told : FnOk P w K mg base CX0 1 A.a__law_told A.d__law_told ["_law_name"] (sp_told K) := ok__law_told T
  have G__law_plain_rays : FnOk P w K mg base CX0 1 A.a__law_plain_rays A.d__law_plain_rays ["_law_size_here"] (sp_plain_rays K) := ok__law_plain_rays T
  have G__law_summed : FnOk P w K mg base CX0 1 A.a__law_summed A.d__law_summed ["_law_size_here", "_law_rows", "_law_weights"] (sp_summed K) := ok__law_summed T
  have G__law_adjoint : FnOk P w K mg base CX0 2 A.a__law_adjoint A.d__law_adjoint ["_law_table"] (sp_adjoint K) := ok__law_adjoint T
  have G__law_plus : FnOk P w K mg base CX0 1 A.a__law_plus A.d__law_plus ["_law_one", "_law_other", "_law_factor"] (sp_plus K) := ok__law_plus T
  refine T.f__law_begun.ok sc__law_begun (fun vs H Q E h => ?_) (fun cdv B out t H vs Q E hr h => ?_)
  · obtain ⟨b, n, rfl, _⟩ := h
    rfl
  · obtain ⟨b, n, rfl, bag, h4, q⟩ := h
    refine ⟨_, (pss_cons (ps_par (i := 2) (j := 3) (by rfl) sc__law_begun.nd rfl rfl (by decide) rfl rfl (pa_cons (pe_call G__law_grab (hr.mono (by decide)) (by rfl) T.g__law_grab T.f__law_grab.kp (b__law_grab T) .nil pass0 (pa_cons (pv 0) (pa_cons pe_int pa_nil))) (pa_cons (pe_call G__law_one_of (hr.mono (by decide)) (by rfl) T.g__law_one_of T.f__law_one_of.kp (b__law_one_of T) .nil pass0 (pa_cons (pv 0) (pa_cons (pe_call G__law_names (hr.mono (by decide)) (by rfl) T.g__law_names T.f__law_names.kp (b__law_names T) .nil pass0 (pa_cons (pv 1) pa_nil)) pa_nil))) pa_nil)) (by rfl))
      (pss_cons (ps_if (pt_cmpR op_eq (pv 2) pe_int (nomark _)) (pss_one (ps_ret (pe_call G__law_told (hr.mono (by decide)) (by rfl) T.g__law_told T.f__law_told.kp (b__law_told T) .nil pass0 (pa_cons (pv 3) pa_nil)))) pss_nil)
      (pss_cons (ps_if (pt_cmpR op_eq (pv 2) pe_int (nomark _)) (pss_one (ps_ret (pe_call G__law_adjoint (hr.mono (by decide)) (by rfl) T.g__law_adjoint T.f__law_adjoint.kp (b__law_adjoint T) .nil pass0 (pa_cons (pe_call G__law_told (hr.mono (by decide)) (by rfl) T.g__law_told T.f__law_told.kp (b__law_told T) .nil pass0 (pa_cons (pv 3) pa_nil)) pa_nil)))) pss_nil)
      (pss_cons (ps_if (pt_cmpR op_eq (pv 2) pe_int (nomark _)) (pss_cons (ps_set (i := 4) sc__law_begun.nd rfl (Or.inl rfl) (pe_slice sl_list (pe_call G__law_mixed (hr.mono (by decide)) (by rfl) T.g__law_mixed T.f__law_mixed.kp (b__law_mixed T) .nil pass0 (pa_cons (pv 0) (pa_cons (pe_call G__law_plain_rays (hr.mono (by decide)) (by rfl) T.g__law_plain_rays T.f__law_plain_rays.kp (b__law_plain_rays T) .nil pass0 (pa_cons (pv 1) pa_nil)) pa_nil))) po_none (po_some (pe_op op_add (pv 1) (pe_call G__law_grab (hr.mono (by decide)) (by rfl) T.g__law_grab T.f__law_grab.kp (b__law_grab T) .nil pass0 (pa_cons (pv 0) (pa_cons pe_int pa_nil)))))))
      (pss_one (ps_ret (pe_call G__law_summed (hr.mono (by decide)) (by rfl) T.g__law_summed T.f__law_summed.kp (b__law_summed T) .nil pass0 (pa_cons (pv 1) (pa_cons (pv 4) (pa_cons (pe_lc (own := [("_law_ray", 5)]) (g := (gName 5)) (tt := tYes)  rfl sc__law_begun.nd (pi_list (pv 4)) (blkOk_by (own := [("_law_ray", 5)]) (N := names__law_begun) (sc := defScope s__law_begun) (by decide +kernel)) (fun _ _ _ _ _ => (pg_name (i := 5) sc__law_begun.nd rfl (Or.inl rfl))) (fun _ _ _ _ _ => pts_nil) (fun _ _ _ _ _ => by apply My.pe_eq; (case h => exact (pe_op op_add pe_int (pe_call G__law_grab (hr.mono (by decide)) (by rfl) T.g__law_grab T.f__law_grab.kp (b__law_grab T) .nil pass0 (pa_cons (pv 0) (pa_cons pe_int pa_nil))))); all_goals (first | exact rfl | (dsimp only [L2.Cx.blk, L2.Cx.nox, L2.cxOf]; done) | (dsimp only [L2.Cx.blk, L2.Cx.nox, L2.cxOf]; exact rfl)))) pa_nil))))))) pss_nil)
      (pss_cons (ps_if (pt_cmpR op_eq (pv 2) pe_int (nomark _)) (pss_cons (ps_setLc (i := 6) (own := [("_law_turn", 7)]) (g := (gName 7)) (tt := tYes)  rfl sc__law_begun.nd rfl rfl (sw_true rfl rfl rfl (by decide +kernel)) (pi_range1 (by rfl) T.n_range (pa_cons (pe_op op_add (pv 1) (pe_call G__law_grab (hr.mono (by decide)) (by rfl) T.g__law_grab T.f__law_grab.kp (b__law_grab T) .nil pass0 (pa_cons (pv 0) (pa_cons pe_int pa_nil)))) pa_nil)) (blkOk_by (own := [("_law_turn", 7)]) (N := names__law_begun) (sc := defScope s__law_begun) (by decide +kernel)) (fun _ _ _ _ _ => (pg_name (i := 7) sc__law_begun.nd rfl (Or.inl rfl))) (fun _ _ _ _ _ => pts_nil) (fun _ _ _ _ _ => by apply My.pe_eq; (case h => exact (pe_call G__law_some_row (hr.mono (by decide)) (by rfl) T.g__law_some_row T.f__law_some_row.kp (b__law_some_row T) .nil pass0 (pa_cons (pv 0) (pa_cons (pv 1) (pa_cons pe_int pa_nil))))); all_goals (first | exact rfl | (dsimp only [L2.Cx.blk, L2.Cx.nox, L2.cxOf]; done) | (dsimp only [L2.Cx.blk, L2.Cx.nox, L2.cxOf]; exact rfl))))
      (pss_one (ps_ret (pe_call G__law_summed (hr.mono (by decide)) (by rfl) T.g__law_summed T.f__law_summed.kp (b__law_summed T) .nil pass0 (pa_cons (pv 1) (pa_cons (pv 6) (pa_cons (pe_op op_rep (pe_lst (pa_cons pe_int pa_nil)) (pe_callB call_len_seq (by rfl) T.n_len (by decide +kernel) (pa_cons (pv 6) pa_nil))) pa_nil))))))) pss_nil)
      (pss_cons (ps_if (pt_cmpR op_eq (pv 2) pe_int (nomark _)) (pss_cons (ps_set (i := 8) sc__law_begun.nd rfl (Or.inr rfl) (pe_lc (own := [("_law_turn", 7)]) (g := (gName 7)) (tt := tYes)  rfl sc__law_begun.nd (pi_range1 (by rfl) T.n_range (pa_cons (pv 1) pa_nil)) (blkOk_by (own := [("_law_turn", 7)]) (N := names__law_begun) (sc := defScope s__law_begun) (by decide +kernel)) (fun _ _ _ _ _ => (pg_name (i := 7) sc__law_begun.nd rfl (Or.inl rfl))) (fun _ _ _ _ _ => pts_nil) (fun _ _ _ _ _ => by apply My.pe_eq; (case h => exact (pe_op op_add pe_int (pe_call G__law_grab (hr.mono (by decide)) (by rfl) T.g__law_grab T.f__law_grab.kp (b__law_grab T) .nil pass0 (pa_cons (pv 0) (pa_cons pe_int pa_nil))))); all_goals (first | exact rfl | (dsimp only [L2.Cx.blk, L2.Cx.nox, L2.cxOf]; done) | (dsimp only [L2.Cx.blk, L2.Cx.nox, L2.cxOf]; exact rfl)))))
      (pss_one (ps_ret (pe_callTy call_tuple_of (by rfl) T.n_tuple (by decide +kernel) (pa_cons (pe_lc (own := [("_law_at", 10)]) (g := (gName 10)) (tt := tYes)  rfl sc__law_begun.nd (pi_range1 (by rfl) T.n_range (pa_cons (pv 1) pa_nil)) (blkOk_by (own := [("_law_at", 10)]) (N := names__law_begun) (sc := defScope s__law_begun) (by decide +kernel)) (fun _ _ _ _ _ => (pg_name (i := 10) sc__law_begun.nd rfl (Or.inr rfl))) (fun _ _ _ _ _ => pts_nil) (fun _ _ _ _ _ => by apply My.pe_eq; (case h => exact (pe_callTy call_tuple_of (by rfl) T.n_tuple (by decide +kernel) (pa_cons (by exact (pe_lc (own := [("_law_to", 9)]) (g := (gName 9)) (tt := tYes)  rfl sc__law_begun.nd (pi_range1 (by rfl) T.n_range (pa_cons (pv 1) pa_nil)) (by (exact L2.blkOk_by (by kernel_rfl))) (fun _ _ _ _ _ => (pg_name (i := 9) sc__law_begun.nd rfl (Or.inl rfl))) (fun _ _ _ _ _ => pts_nil) (fun _ _ _ _ _ => by apply My.pe_eq; (case h => exact (pe_op op_mul (pe_ix ix_seq (pv 8) (pv 10) (fun _ _ => rfl)) (pe_callTy call_int1 (by rfl) T.n_int (by decide +kernel) (pa_cons (pe_cmpR op_eq (pv 10) (pv 9) (nomark _)) pa_nil)))); all_goals (first | exact rfl | (dsimp only [L2.Cx.blk, L2.Cx.nox, L2.cxOf]; done) | (dsimp only [L2.Cx.blk, L2.Cx.nox, L2.cxOf]; exact rfl))))) pa_nil))); all_goals (first | exact rfl | (dsimp only [L2.Cx.blk, L2.Cx.nox, L2.cxOf]; done) | (dsimp only [L2.Cx.blk, L2.Cx.nox, L2.cxOf]; exact rfl)))) pa_nil))))) pss_nil)
      (pss_cons (ps_par (i := 11) (j := 12) (by rfl) sc__law_begun.nd rfl rfl (by decide) rfl rfl (pa_cons (pe_call G__law_some_table (hr.mono (by decide)) (by rfl) T.g__law_some_table T.f__law_some_table.kp (b__law_some_table T) .nil pass0 (pa_cons (pv 0) (pa_cons (pv 1) (pa_cons pe_int pa_nil)))) (pa_cons (pe_op op_add pe_int (pe_call G__law_grab (hr.mono (by decide)) (by rfl) T.g__law_grab T.f__law_grab.kp (b__law_grab T) .nil pass0 (pa_cons (pv 0) (pa_cons pe_int pa_nil)))) pa_nil)) (by rfl))
      (pss_cons (ps_set (i := 13) sc__law_begun.nd rfl (Or.inl rfl) (pe_ifExp (pt_cmpR op_eq (pv 2) pe_int (nomark _)) (pe_call G__law_told (hr.mono (by decide)) (by rfl) T.g__law_told T.f__law_told.kp (b__law_told T) .nil pass0 (pa_cons (pv 3) pa_nil)) (pe_call G__law_adjoint (hr.mono (by decide)) (by rfl) T.g__law_adjoint T.f__law_adjoint.kp (b__law_adjoint T) .nil pass0 (pa_cons (pe_call G__law_told (hr.mono (by decide)) (by rfl) T.g__law_told T.f__law_told.kp (b__law_told T) .nil pass0 (pa_cons (pv 3) pa_nil)) pa_nil))))
      (pss_one (ps_ret (pe_call G__law_plus (hr.mono (by decide)) (by rfl) T.g__law_plus T.f__law_plus.kp (b__law_plus T) .nil pass0 (pa_cons (pv 11) (pa_cons (pv 13) (pa_cons (pv 12) pa_nil)))))))))))))), ?_⟩
    have hn2 := h4.two
    have hn4 := h4.four
    have n62 : ((n : Nat) : Int) < 2 ^ 62 := by omega
    refine ⟨_, rfl, b, _, rfl, bag, by decide, log_le (by decide), fun way H1 w0 w1 e1 b1 => ?_⟩
    refine ⟨_, rfl, _, rfl, n, rfl, h4, fun D xs H2 e2 hD hL hne hlen hnm => ?_⟩
    have b2 := b1.same e2
    refine ⟨b, D, xs, rfl, b2, b1.ne hD, .inl (.inl hL), hne, hlen, fun nm H3 hnmx e3 b3 => ?_⟩
    have hname := hnm nm hnmx
    have e13 : But b H H3 := e1.trans ((But.of e2).trans e3)
    refine ⟨_, _, rfl, ?_⟩
    have told : ∀ {H4 : Hp} {M : List (List Int)}, Told n M → Ab BG M ∧ Sq n M ∧ Sy n M := fun ht => ⟨ht.fit.2.2.2.mono (by decide), ht.fit.2.1, ht.fit.2.2.1⟩
    refine ⟨_, rfl, rfl, _, rfl, ite2 (fun _ => ?_) fun _ => ?_⟩
    · refine ⟨_, rfl, nm, n, rfl, hname, fun v' M H4 e4 hm ht => ?_⟩
      exact q v' M H4 hm (told (H4 := H4) ht).2.1 (told (H4 := H4) ht).2.2 (told (H4 := H4) ht).1 (e13.trans (But.of e4)) (b3.same e4)
    refine ⟨_, rfl, rfl, _, rfl, ite2 (fun _ => ?_) fun _ => ?_⟩
    · refine ⟨_, rfl, nm, n, rfl, hname, fun v' M H4 e4 hm ht => ?_⟩
      obtain ⟨a1, a2, a3, a4⟩ := told_adj ht
      refine ⟨v', M, n, rfl, hm, ht.fit.2.1, h4, ht.fit.2.2.2.mono (by decide), a4, fun v2 H5 e5 h5 => ?_⟩
      exact q v2 _ H5 h5 a1 a2 (a3.mono (by decide)) (e13.trans (But.of (e4.trans e5))) (b3.same (e4.trans e5))
    refine ⟨_, rfl, rfl, _, rfl, ite2 (fun _ => ?_) fun _ => ?_⟩
    · refine ⟨_, rfl, _, rfl, n, rfl, h4, fun D1 xs1 H4 e4 hD1 hL1 hm1 hx1 hx2 => ⟨b, D1, xs1, rfl, b3.same e4, .inl (.inl hL1), by omega, fun D2 ys2 H5 hperm e5 b5 hD2b hD2 hL2 => ⟨_, rfl, _, rfl, b, _, rfl, b5, by decide, log_le (by decide), fun r H6 r0 r1 e6 b6 => ⟨_, _, rfl, rfl, _, rfl, D2, ys2, rfl, .inl (.inl (e6 D2 _ hL2 hD2b)), fun p hp => ?_⟩⟩⟩⟩
      have hsub : ∀ v ∈ cutV ys2 none (some ((n : Int) + r)), v ∈ xs1 := fun v hv => hperm.subset (List.mem_of_mem_drop (List.mem_of_mem_take hv))
      have hzl : (cutV ys2 none (some ((n : Int) + r))).length ≤ ys2.length := by
        unfold cutV
        rw [List.length_take, List.length_drop]
        omega
      have hyl := hperm.length_eq
      have e36 : But b H3 H6 := (But.of e4).trans (e5.trans e6)
      have hm6 : RowMem K H6 n 1 (cutV ys2 none (some ((n : Int) + r))) := fun v hv => ((hm1.but e5 (b3.same e4)).but e6 b5) v (hsub v hv)
      have b7 := b6.upd (o := .lst (cutV ys2 none (some ((n : Int) + r)))) hp
      have e37 := e36.trans (But.of (same_new (o := .lst (cutV ys2 none (some ((n : Int) + r)))) hp))
      have hm7 := hm6.mono (same_new (o := .lst (cutV ys2 none (some ((n : Int) + r)))) hp)
      have hpb : p ≠ b := b6.ne hp
      have hp7 : (upd H6 p (.lst (cutV ys2 none (some ((n : Int) + r))))) p = some (.lst (cutV ys2 none (some ((n : Int) + r)))) := upd_same
      generalize upd H6 p (.lst (cutV ys2 none (some ((n : Int) + r)))) = H7 at b7 e37 hm7 hp7 ⊢
      generalize cutV ys2 none (some ((n : Int) + r)) = zs at *
      dsimp only [gName, tRet, tCall, tCons, tNil]
      refine ⟨_, rfl, _, rfl, ?_⟩
      refine comp_bj (b := b) (walk_list (K := K) (a := p) (xs := zs)) (fun k x => True) (fun k H1 x H2 hy => ⟨hy.1, trivial⟩) b7 (IntOk 5) (fun _ _ _ _ e h => h) (by omega) (fun H' e bag' => e.l hpb (.inl (.inl hp7))) (fun R q0 => ⟨_, rfl, p, rfl, ⟨_, .inl (.inl hp7)⟩, q0⟩) (fun x => rfl) ?_ ?_
      · intro k x D3 acc H8 Q' hk _ e8 b8 hD3 hL3 hq
        exact ⟨_, rfl, b, _, rfl, b8, by decide, log_le (by decide), fun r H9 r0 r1 e9 b9 => ⟨_, _, rfl, rfl, hq _ H9 e9 b9 fun u => ⟨_, rfl, by omega⟩⟩⟩
      · intro D3 ws H8 e8 b8 hD3b hD3 hwl hok hL3
        obtain ⟨W, rfl, hW⟩ := oks_ints (z := 5) ws fun y hy => by
          obtain ⟨k, hk, rfl⟩ := List.getElem_of_mem hy
          exact hok k _ (List.getElem?_eq_getElem hk)
        have hm8 := hm7.but e8 b7
        refine ⟨n, p, D3, zs, W, rfl, h4, .inl (.inl (e8 p _ hp7 hpb)), fun v hv => ?_, .inl (.inl hL3), hW, by omega, fun v M H9 e9 hv sq sy ab => ?_⟩
        · obtain ⟨t, r, z1, z2, z3, z4⟩ := hm8 v hv
          exact ⟨t, r, z1, z2, z3, z4.mono (by decide)⟩
        · exact q v M H9 hv sq sy ab (e13.trans (e37.trans (e8.trans (But.of e9)))) (b8.same e9)
    refine ⟨_, rfl, rfl, _, rfl, ite2 (fun _ => ?_) fun _ => ?_⟩
    · dsimp only [gName, tSeq, tAsg]
      rw [tLc_eq]
      refine ⟨_, rfl, _, rfl, b, _, rfl, b3, by decide, log_le (by decide), fun r H4 r0 r1 e4 b4 => ⟨_, _, rfl, rfl, _, rfl, by omega, by omega, ?_⟩⟩
      unfold LcAt
      refine comp_bj (b := b) (walk_range (lo := 0) (n := ((n : Int) + r).toNat)) (fun k x => True) (fun k H1 x H2 hy => ⟨hy.1, trivial⟩) b4 (TupB K b n 2) (fun _ _ _ _ e h => h.mono e) (by omega) (fun _ _ _ => trivial) (fun R q0 => q0) (fun x => rfl) ?_ ?_
      · intro k x D3 acc H5 Q' hk _ e5 b5 hD3 hL3 hq
        refine ⟨_, rfl, _, rfl, b, n, 2, rfl, b5, h4, by decide, by decide, fun v r H6 hr hl hrb e6 b6 => hq v H6 e6 b6 fun u => ?_⟩
        obtain ⟨t, rfl, hst⟩ := hr
        have hL36 := e6 D3 _ hL3 (b4.ne hD3)
        have bD : Bag (upd H6 D3 u) b := by
          obtain ⟨x1, y1, z1, hb, r1⟩ := b6
          exact ⟨x1, y1, z1, by rw [upd_ne (Ne.symm (b4.ne hD3))]; exact hb, r1⟩
        exact ⟨t, r, rfl, fun H' e => e.t bD (t_upd hL36 hst), hl, hrb⟩
      · intro D3 rs H5 e5 b5 hD3b hD3 hrl hok hL3
        dsimp only [tRet, tCall, tCons, tNil]
        refine ⟨_, rfl, _, rfl, by show 1 ≤ sizeLine; decide, fun p hp => ?_⟩
        have e6 := same_new (o := .lst [.int 1]) hp
        have hL36 := e6 _ _ hL3
        have hlr : rs.length ≤ 10 := by omega
        refine ⟨_, rfl, D3, rs, rfl, .inl (.inl (.inl hL36)), p, _, _, rfl, rfl, upd_same, by omega, by omega, ?_, fun p2 hp2 => ?_⟩
        · rw [Int.toNat_natCast, sizeLine_eq]
          simp; omega
        · rw [Int.toNat_natCast]
          have z : ∀ m : Nat, (List.replicate m [V.int 1]).flatten = irow (List.replicate m 1) := fun m => by
            induction m with
            | zero => rfl
            | succ m ih => rw [List.replicate_succ, List.flatten_cons, ih, List.replicate_succ]; rfl
          rw [z]
          have e7 := e6.trans (same_new (o := .lst (irow (List.replicate rs.length 1))) hp2)
          refine ⟨n, D3, p2, rs, List.replicate rs.length 1, rfl, h4, .inl (.inl (e7 _ _ hL3)), fun v hv => ?_, .inl (.inl upd_same), fun x hx => ?_, by omega, fun v M H9 e9 hv sq sy ab => ?_⟩
          · obtain ⟨k, hk, rfl⟩ := List.getElem_of_mem hv
            obtain ⟨t, r, z1, z2, z3, z4⟩ := hok k _ (List.getElem?_eq_getElem hk)
            exact ⟨t, r, z1, z2 _ (But.of e7), z3, z4.mono (by decide)⟩
          · rw [(List.mem_replicate.mp hx).2]; decide
          · exact q v M H9 hv sq sy ab (e13.trans (e4.trans (e5.trans (But.of (e7.trans e9))))) (b5.same (e7.trans e9))
    refine ⟨_, rfl, rfl, _, rfl, ite2 (fun _ => ?_) fun _ => ?_⟩
    · dsimp only [gName, tSeq, tAsg]
      rw [tLc_eq]
      refine ⟨_, rfl, _, rfl, by omega, n62, ?_⟩
      rw [Int.toNat_natCast]
      unfold LcAt
      refine comp_bj (b := b) (walk_range (lo := 0) (n := n)) (fun k x => True) (fun k H1 x H2 hy => ⟨hy.1, trivial⟩) b3 (IntOk 6) (fun _ _ _ _ e h => h) (by omega) (fun _ _ _ => trivial) (fun R q0 => q0) (fun x => rfl) ?_ ?_
      · intro k x D3 acc H8 Q' hk _ e8 b8 hD3 hL3 hq
        exact ⟨_, rfl, b, _, rfl, b8, by decide, log_le (by decide), fun r H9 r0 r1 e9 b9 => ⟨_, _, rfl, rfl, hq _ H9 e9 b9 fun u => ⟨_, rfl, by omega⟩⟩⟩
      · intro D3 ws H4 e4 b4 hD3b hD3 hwl hok hL3
        obtain ⟨ns, rfl, hns⟩ := oks_ints (z := 6) ws fun y hy => by
          obtain ⟨k, hk, rfl⟩ := List.getElem_of_mem hy
          exact hok k _ (List.getElem?_eq_getElem hk)
        have hnl : ns.length = n := by simpa using hwl
        have hsN : SqL K H4 D3 (irow ns) := .inl (.inl hL3)
        dsimp only [tRet, tCB, tCons, tNil]
        rw [tLc_eq]
        refine ⟨_, rfl, _, rfl, by omega, n62, ?_⟩
        rw [Int.toNat_natCast]
        unfold LcAt
        refine comp_rng (K := K) (walk_range (lo := 0) (n := n)) (fun i => rowD ((List.range n).map fun j => ns.getD i 0 * if i = j then 1 else 0)) (by omega) (fun _ _ => trivial) (fun R q0 => q0) (fun x => rfl) ?_ ?_
        · intro i D acc H5 A1 hi e5 hD hL hA
          dsimp only [tCB, tCons, tNil]
          rw [tLc_eq]
          refine ⟨_, rfl, _, rfl, by omega, n62, ?_⟩
          rw [Int.toNat_natCast, Int.zero_add]
          unfold LcAt
          refine comp_rng (K := K) (walk_range (lo := 0) (n := n)) (fun j => .int (ns.getD i 0 * if i = j then 1 else 0)) (by omega) (fun _ _ => trivial) (fun R q0 => q0) (fun x => rfl) ?_ ?_
          · intro j D2 acc2 H6 A2 hj e6 hD2 hL2 hA2
            rw [Int.zero_add]
            have hni := Rb.get (b := 6) (r := ns) hns i
            refine ⟨_, rfl, _, rfl, ix_k (k := false) (same_l (e5.trans e6) hsN) (irow_get (by omega)) ⟨_, rfl, _, rfl, rfl, Or.inr ⟨_, rfl, _, _, rfl, rfl, Or.inl ⟨by omega, by omega⟩, ?_⟩⟩⟩
            have ev : ns.getD i 0 * (if decide (V.int (i : Nat) = V.int (j : Nat)) = true then (1 : Int) else 0) = ns.getD i 0 * if i = j then 1 else 0 := by
              by_cases c : i = j
              · subst c; simp
              · have c' : ¬ ((i : Int) = (j : Int)) := int_ne c
                simp [c, c']
            show A2 (V.int (ns.getD i 0 * (if decide (V.int (i : Nat) = V.int (j : Nat)) = true then (1 : Int) else 0))) H6
            rw [ev]
            exact hA2 _ _ (Same.refl _) fun u => .int _
          · intro D2 zs H6 e6 hD2 hL2 hj
            have hj2 : JdAll K H6 zs (((List.range n).map fun j => ns.getD i 0 * if i = j then 1 else 0).map PyData.int) := by simpa [List.map_map, Function.comp_def] using hj
            rw [jd_ints_inv _ _ hj2] at hL2
            exact ⟨D2, _, rfl, .inl ⟨.inl (.inl hL2), fun l hl => hA _ _ (e6.trans (same_new hl)) fun u => row_new (e6 _ _ hL) hl⟩⟩
        · intro D ys H5 e5 hD hL hj
          have hr2 : RowsAt K H5 ys ((mkM n fun i j => ns.getD i 0 * if i = j then 1 else 0).map irow) := jd_rows (by simpa [mkM, List.map_map, Function.comp_def] using hj)
          refine ⟨D, _, rfl, .inl ⟨.inl (.inl hL), fun l hl => ?_⟩⟩
          have e6 := e5.trans (same_new (o := .tup ys) hl)
          refine q _ _ _ ⟨l, ys, rfl, .inl (.inl upd_same), rows_mono (same_new hl) hr2⟩ (mkM_sq (by omega) (by omega)) (mk_sym (by omega) (by omega) fun i j => ?_) (mk_ab (by omega) (by omega) fun i j _ _ => ?_) (e13.trans (e4.trans (But.of e6))) (b4.same e6)
          · by_cases c : i = j
            · subst c; rfl
            · rw [if_neg c, if_neg (Ne.symm c)]; simp
          · have := Rb.get (b := 6) (r := ns) hns i
            unfold BG
            split <;> omega
    · refine ⟨_, rfl, _, rfl, b, n, 1, rfl, b3, h4, by decide, fun v M H4 hM sM aM yM e4 b4 => ⟨_, rfl, b, _, rfl, b4, by decide, log_le (by decide), fun r H5 r0 r1 e5 b5 => ⟨_, _, rfl, rfl, _, _, rfl, ?_⟩⟩⟩
      have hM5 := e5.mt b4 hM
      have fin : ∀ v' N H6, Same H5 H6 → MtAt K H6 true v' N → Sq n N → Sy n N → Ab 100 N → ∃ v1 u1 f1 n1 S1 U1, [v, v', V.int (2 + r)] = [v1, u1, .int f1] ∧ MtAt K H6 true v1 S1 ∧ MtAt K H6 true u1 U1 ∧ Sq n1 S1 ∧ Sq n1 U1 ∧ Wd f1 ∧ AllW U1 ∧ ∀ v' H', Same H6 H' → MtAt K H' true v' (plusM S1 U1 f1) → Q v' H' := fun v' N H6 e6 hN sN yN aN =>
        ⟨v, v', 2 + r, n, M, N, rfl, hM5.mono e6, hN, sM, sN, bb_wd (n := 10) (by omega), aN.wd (by exact Nat.lt_trans (by decide : 100 < 2 ^ 10) (Nat.pow_lt_pow_right (by decide) (by decide))), fun v2 H7 e7 h7 => q v2 _ H7 h7 (plusM_sq sM sN) (plusM_sy sM sN yM yN) ((plusM_ab sM sN aM aN).mono (by
          unfold BG
          have : (2 + r).natAbs * 100 ≤ 10 * 100 := Nat.mul_le_mul_right _ (by omega)
          omega)) (e13.trans (e4.trans (e5.trans (But.of (e6.trans e7))))) (b5.same (e6.trans e7))⟩
      refine ⟨_, rfl, rfl, _, rfl, ite2 (fun _ => ?_) fun _ => ?_⟩
      · refine ⟨_, rfl, nm, n, rfl, hname, fun v' N H6 e6 hN ht => ?_⟩
        exact ⟨_, rfl, _, rfl, _, rfl, fin v' N H6 e6 hN ht.fit.2.1 ht.fit.2.2.1 (ht.fit.2.2.2.mono (by decide))⟩
      · refine ⟨_, rfl, nm, n, rfl, hname, fun v' N H6 e6 hN ht => ?_⟩
        obtain ⟨a1, a2, a3, a4⟩ := told_adj ht
        refine ⟨v', N, n, rfl, hN, ht.fit.2.1, h4, ht.fit.2.2.2.mono (by decide), a4, fun v2 H7 e7 h7 => ?_⟩
        exact ⟨_, rfl, _, rfl, _, rfl, fin v2 _ H7 (e6.trans e7) h7 a1 a2 a3⟩
end
end K06

set_option maxHeartbeats 1000000
namespace My
open PySem PySem.Spec PyProof.Rows L2 ZN
theorem seq_of {t u : TS} {D : Ends} {σ : L2.St} {H : Hp} (I : L2.St → Hp → Prop) (h1 : ∀ R : L2.St → Hp → Prop, (∀ σ' H', I σ' H' → R σ' H') → t { D with nx := R } σ H) (h2 : ∀ σ' H', I σ' H' → u D σ' H') : tSeq t u D σ H := h1 (u D) h2
end My
namespace K06
open PySem PySem.Spec PyProof.Rows L2 My ZN
section
variable {P : Program} {w : World} {K : PySem.W.Frag} {mg : Str → Option Value} {base : Heap} {A : Adr}
def BP : Nat := 10 ^ 10
/-- what a drawn table is like -/
def TabB (K : PySem.W.Frag) (b : Addr) (n x : Nat) (H0 H : Hp) (v : V) : Prop := But b H0 H ∧ Bag H b ∧ ∃ M, MtAt K H true v M ∧ Sq n M ∧ Sy n M ∧ Ab x M
def sp_positive (K : PySem.W.Frag) : Sp := fun vs H Q _ => ∃ (b : Addr) (n : Nat), vs = [.ref b, .int (n : Nat)] ∧ Bag H b ∧ N4 n ∧ ∀ v H', TabB K b n BP H H' v → Q v H'
theorem ok__law_positive (T : Txt K mg A) : FnOk P w K mg base CX0 5 A.a__law_positive A.d__law_positive ["_law_bag_here", "_law_size_here"] (sp_positive K) := by
  have G__law_grab : FnOk P w K mg base CX0 1 A.a__law_grab A.d__law_grab ["_law_bag_here", "_law_total"] sp_grab := ok__law_grab T
  have G__law_matrix : FnOk P w K mg base CX0 3 A.a__law_matrix A.d__law_matrix ["_law_bag_here", "_law_size_here", "_law_most"] (sp_matrix K) := ok__law_matrix T
  have G__law_names : FnOk P w K mg base CX0 1 A.a__law_names A.d__law_names ["_law_size_here"] (sp_names K) := ok__law_names T
  have G__law_told : FnOk P w K mg base CX0 1 A.a__law_told A.d__law_told ["_law_name"] (sp_told K) := ok__law_told T
  have G__law_begun : FnOk P w K mg base CX0 4 A.a__law_begun A.d__law_begun ["_law_bag_here", "_law_size_here"] (sp_begun K) := ok__law_begun T
  have G__law_led : FnOk P w K mg base CX0 3 A.a__law_led A.d__law_led ["_law_table", "_law_matrix_here"] (sp_law_led K) := ok__law_led T
  have G__law_plus : FnOk P w K mg base CX0 1 A.a__law_plus A.d__law_plus ["_law_one", "_law_other", "_law_factor"] (sp_plus K) := ok__law_plus T
  have G__law_is_positive : FnOk P w K mg base CX0 2 A.a__law_is_positive A.d__law_is_positive ["_law_table"] (sp_is_positive K) := ok__law_is_positive T
  refine T.f__law_positive.ok sc__law_positive (fun vs H Q E h => ?_) (fun cdv B out t H vs Q E hr h => ?_)
  · obtain ⟨b, n, rfl, _⟩ := h
    rfl
  · obtain ⟨b, n, rfl, bag, h4, q⟩ := h
    refine ⟨_, (pss_cons (ps_set (i := 2) sc__law_positive.nd rfl (Or.inl rfl) (pe_call G__law_begun (hr.mono (by decide)) (by rfl) T.g__law_begun T.f__law_begun.kp (b__law_begun T) .nil pass0 (pa_cons (pv 0) (pa_cons (pv 1) pa_nil))))
      (pss_cons (ps_if (pt_not (pt_val (pe_call G__law_is_positive (hr.mono (by decide)) (by rfl) T.g__law_is_positive T.f__law_is_positive.kp (b__law_is_positive T) .nil pass0 (pa_cons (pv 2) pa_nil)))) (pss_cons (ps_set (i := 3) sc__law_positive.nd rfl (Or.inl rfl) (pe_callTy call_tuple_of (by rfl) T.n_tuple (by decide +kernel) (pa_cons (pe_lc (own := [("_law_at", 5)]) (g := (gName 5)) (tt := tYes)  rfl sc__law_positive.nd (pi_range1 (by rfl) T.n_range (pa_cons (pv 1) pa_nil)) (blkOk_by (own := [("_law_at", 5)]) (N := names__law_positive) (sc := defScope s__law_positive) (by decide +kernel)) (fun _ _ _ _ _ => (pg_name (i := 5) sc__law_positive.nd rfl (Or.inr rfl))) (fun _ _ _ _ _ => pts_nil) (fun _ _ _ _ _ => by apply My.pe_eq; (case h => exact (pe_callTy call_tuple_of (by rfl) T.n_tuple (by decide +kernel) (pa_cons (by exact (pe_lc (own := [("_law_to", 4)]) (g := (gName 4)) (tt := tYes)  rfl sc__law_positive.nd (pi_range1 (by rfl) T.n_range (pa_cons (pv 1) pa_nil)) (by (exact L2.blkOk_by (by kernel_rfl))) (fun _ _ _ _ _ => (pg_name (i := 4) sc__law_positive.nd rfl (Or.inl rfl))) (fun _ _ _ _ _ => pts_nil) (fun _ _ _ _ _ => by apply My.pe_eq; (case h => exact (pe_callTy call_int1 (by rfl) T.n_int (by decide +kernel) (pa_cons (pe_cmpR op_eq (pv 5) (pv 4) (nomark _)) pa_nil))); all_goals (first | exact rfl | (dsimp only [L2.Cx.blk, L2.Cx.nox, L2.cxOf]; done) | (dsimp only [L2.Cx.blk, L2.Cx.nox, L2.cxOf]; exact rfl))))) pa_nil))); all_goals (first | exact rfl | (dsimp only [L2.Cx.blk, L2.Cx.nox, L2.cxOf]; done) | (dsimp only [L2.Cx.blk, L2.Cx.nox, L2.cxOf]; exact rfl)))) pa_nil)))
      (pss_one (ps_set (i := 2) sc__law_positive.nd rfl (Or.inl rfl) (pe_call G__law_plus (hr.mono (by decide)) (by rfl) T.g__law_plus T.f__law_plus.kp (b__law_plus T) .nil pass0 (pa_cons (pv 2) (pa_cons (pv 3) (pa_cons pe_int pa_nil))))))) pss_nil)
      (pss_cons (ps_if (pt_not (pt_val (pe_call G__law_is_positive (hr.mono (by decide)) (by rfl) T.g__law_is_positive T.f__law_is_positive.kp (b__law_is_positive T) .nil pass0 (pa_cons (pv 2) pa_nil)))) (pss_one (ps_set (i := 2) sc__law_positive.nd rfl (Or.inl rfl) (pe_call G__law_told (hr.mono (by decide)) (by rfl) T.g__law_told T.f__law_told.kp (b__law_told T) .nil pass0 (pa_cons (pe_ix ix_seq (pe_call G__law_names (hr.mono (by decide)) (by rfl) T.g__law_names T.f__law_names.kp (b__law_names T) .nil pass0 (pa_cons (pv 1) pa_nil)) pe_int (fun _ _ => rfl)) pa_nil)))) pss_nil)
      (pss_cons (ps_if (pt_cmpR op_eq (pe_call G__law_grab (hr.mono (by decide)) (by rfl) T.g__law_grab T.f__law_grab.kp (b__law_grab T) .nil pass0 (pa_cons (pv 0) (pa_cons pe_int pa_nil))) pe_int (nomark _)) (pss_one (ps_set (i := 2) sc__law_positive.nd rfl (Or.inl rfl) (pe_call G__law_plus (hr.mono (by decide)) (by rfl) T.g__law_plus T.f__law_plus.kp (b__law_plus T) .nil pass0 (pa_cons (pv 2) (pa_cons (pv 2) (pa_cons (pe_call G__law_grab (hr.mono (by decide)) (by rfl) T.g__law_grab T.f__law_grab.kp (b__law_grab T) .nil pass0 (pa_cons (pv 0) (pa_cons pe_int pa_nil))) pa_nil)))))) pss_nil)
      (pss_one (ps_ret (pe_ifExp (pt_cmpR op_eq (pe_call G__law_grab (hr.mono (by decide)) (by rfl) T.g__law_grab T.f__law_grab.kp (b__law_grab T) .nil pass0 (pa_cons (pv 0) (pa_cons pe_int pa_nil))) pe_int (nomark _)) (pe_call G__law_led (hr.mono (by decide)) (by rfl) T.g__law_led T.f__law_led.kp (b__law_led T) .nil pass0 (pa_cons (pv 2) (pa_cons (pe_call G__law_matrix (hr.mono (by decide)) (by rfl) T.g__law_matrix T.f__law_matrix.kp (b__law_matrix T) .nil pass0 (pa_cons (pv 0) (pa_cons (pv 1) (pa_cons pe_int pa_nil)))) pa_nil))) (pv 2)))))))), ?_⟩
    have hn2 := h4.two
    have hn4 := h4.four
    have n62 : ((n : Nat) : Int) < 2 ^ 62 := by omega
    refine ⟨_, rfl, _, rfl, b, n, rfl, bag, h4, fun v0 M0 H1 hM0 sM0 yM0 aM0 e1 b1 => ?_⟩
    have lt201 : ∀ {x : Nat}, x ≤ 2 ^ 100 → x ≤ 2 ^ 201 := fun h => Nat.le_trans h (Nat.pow_le_pow_right (by decide) (by decide))
    dsimp only [gName]
    refine seq_of (fun σ' H' => ∃ v x3, TabB K b n 125012 H H' v ∧ σ' = [some (.ref b), some (.int (n : Nat)), some v, x3, none, none]) (fun R hR => ?_) ?_
    · refine ⟨_, rfl, v0, M0, n, rfl, hM0, sM0, h4, aM0.mono (lt201 (by decide)), fun bb H2 e2 => ⟨_, rfl, ?_⟩⟩
      refine ite2 (fun _ => ?_) fun _ => hR _ _ ⟨v0, none, ⟨e1.trans (But.of e2), b1.same e2, M0, hM0.mono e2, sM0, yM0, aM0.mono (by decide)⟩, rfl⟩
      dsimp only [tSeq, tAsg, gName, tCB, tCons, tNil]
      rw [tLc_eq]
      refine ⟨_, rfl, _, rfl, by omega, n62, ?_⟩
      rw [Int.toNat_natCast]
      unfold LcAt
      have e2b : But b H H2 := e1.trans (But.of e2)
      have b2 := b1.same e2
      refine comp_rng (K := K) (walk_range (lo := 0) (n := n)) (fun i => rowD ((List.range n).map fun j => if i = j then 1 else 0)) (by omega) (fun _ _ => trivial) (fun R q0 => q0) (fun x => rfl) ?_ ?_
      · intro i D acc H5 A1 hi e5 hD hL hA
        dsimp only [tCB, tCons, tNil]
        rw [tLc_eq]
        refine ⟨_, rfl, _, rfl, by omega, n62, ?_⟩
        rw [Int.toNat_natCast, Int.zero_add]
        unfold LcAt
        refine comp_rng (K := K) (walk_range (lo := 0) (n := n)) (fun j => .int (if i = j then 1 else 0)) (by omega) (fun _ _ => trivial) (fun R q0 => q0) (fun x => rfl) ?_ ?_
        · intro j D2 acc2 H6 A2 hj e6 hD2 hL2 hA2
          rw [Int.zero_add]
          refine ⟨_, rfl, _, rfl, rfl, Or.inr ⟨_, rfl, ?_⟩⟩
          have ev : (if decide (V.int (i : Nat) = V.int (j : Nat)) = true then (1 : Int) else 0) = if i = j then 1 else 0 := by
            by_cases c : i = j
            · subst c; simp
            · have c' : ¬ ((i : Int) = (j : Int)) := int_ne c
              simp [c, c']
          show A2 (V.int (if decide (V.int (i : Nat) = V.int (j : Nat)) = true then (1 : Int) else 0)) H6
          rw [ev]
          exact hA2 _ _ (Same.refl _) fun u => .int _
        · intro D2 zs H6 e6 hD2 hL2 hj
          have hj2 : JdAll K H6 zs (((List.range n).map fun j => if i = j then (1 : Int) else 0).map PyData.int) := by simpa [List.map_map, Function.comp_def] using hj
          rw [jd_ints_inv _ _ hj2] at hL2
          exact ⟨D2, _, rfl, .inl ⟨.inl (.inl hL2), fun l hl => hA _ _ (e6.trans (same_new hl)) fun u => row_new (e6 _ _ hL) hl⟩⟩
      · intro D ys H5 e5 hD hL hj
        have hr2 : RowsAt K H5 ys ((idM n).map irow) := jd_rows (by simpa [idM, mkM, List.map_map, Function.comp_def] using hj)
        refine ⟨D, _, rfl, .inl ⟨.inl (.inl hL), fun l hl => ?_⟩⟩
        have e6 := e5.trans (same_new (o := .tup ys) hl)
        have hI : MtAt K (upd H5 l (.tup ys)) true (.ref l) (idM n) := ⟨l, ys, rfl, .inl (.inl upd_same), rows_mono (same_new hl) hr2⟩
        generalize upd H5 l (.tup ys) = H6 at e6 hI ⊢
        have sI : Sq n (idM n) := mkM_sq (by omega) (by omega)
        have aI : Ab 1 (idM n) := Ab.id (by omega) (by omega)
        refine ⟨_, rfl, _, rfl, v0, .ref l, 12, n, M0, idM n, rfl, hM0.mono (e2.trans e6), hI, sM0, sI, bb_wd (n := 12) (by decide), aI.wd (by exact Nat.one_lt_two_pow (by decide)), fun v' H7 e7 h7 => hR _ _ ⟨v', some (.ref l), ⟨e2b.trans (But.of (e6.trans e7)), b2.same (e6.trans e7), _, h7, plusM_sq sM0 sI, plusM_sy sM0 sI yM0 (trM_id (by omega) (by omega)), (plusM_ab sM0 sI aM0 aI).mono (by decide)⟩, rfl⟩⟩
    · rintro σ' H2 ⟨v, x3, ⟨e2, b2, M, hM, sM, yM, aM⟩, rfl⟩
      refine seq_of (fun σ' H' => ∃ v x3, TabB K b n 125012 H H' v ∧ σ' = [some (.ref b), some (.int (n : Nat)), some v, x3, none, none]) (fun R hR => ?_) ?_
      · refine ⟨_, rfl, v, M, n, rfl, hM, sM, h4, aM.mono (lt201 (by decide)), fun bb H3 e3 => ⟨_, rfl, ?_⟩⟩
        refine ite2 (fun _ => ?_) fun _ => hR _ _ ⟨v, x3, ⟨e2.trans (But.of e3), b2.same e3, M, hM.mono e3, sM, yM, aM⟩, rfl⟩
        refine ⟨_, rfl, n, rfl, h4, fun D xs H4 e4 hD hL hne hlen hnm => ?_⟩
        obtain ⟨x0, xs', rfl⟩ : ∃ x0 xs', xs = x0 :: xs' := by
          cases xs with
          | nil => exact absurd rfl hne
          | cons x0 xs' => exact ⟨x0, xs', rfl⟩
        refine ix_k (k := false) (i := 0) (.inl (.inl hL)) rfl ⟨x0, n, rfl, hnm x0 List.mem_cons_self, fun v' N H5 e5 hN ht => ?_⟩
        exact hR _ _ ⟨v', x3, ⟨e2.trans (But.of (e3.trans (e4.trans e5))), b2.same (e3.trans (e4.trans e5)), N, hN, ht.fit.2.1, ht.fit.2.2.1, ht.fit.2.2.2.mono (by decide)⟩, rfl⟩
      · rintro σ' H3 ⟨v, x3, ⟨e3, b3, M, hM, sM, yM, aM⟩, rfl⟩
        refine seq_of (fun σ' H' => ∃ v x3, TabB K b n 600000 H H' v ∧ σ' = [some (.ref b), some (.int (n : Nat)), some v, x3, none, none]) (fun R hR => ?_) ?_
        · refine ⟨_, rfl, b, _, rfl, b3, by decide, log_le (by decide), fun r H4 r0 r1 e4 b4 => ⟨rfl, _, rfl, ite2 (fun _ => ?_) fun _ => hR _ _ ⟨v, x3, ⟨e3.trans e4, b4, M, e4.mt b3 hM, sM, yM, aM.mono (by decide)⟩, rfl⟩⟩⟩
          refine ⟨_, rfl, _, rfl, _, rfl, b, _, rfl, b4, by decide, log_le (by decide), fun r2 H5 r20 r21 e5 b5 => ?_⟩
          have hM5 := e5.mt b4 (e4.mt b3 hM)
          refine ⟨v, v, r2, n, M, M, rfl, hM5, hM5, sM, sM, bb_wd (n := 10) (by omega), aM.wd (by exact Nat.lt_trans (by decide : 125012 < 2 ^ 20) (Nat.pow_lt_pow_right (by decide) (by decide))), fun v' H6 e6 h6 => hR _ _ ⟨v', x3, ⟨e3.trans (e4.trans (e5.trans (But.of e6))), b5.same e6, _, h6, plusM_sq sM sM, plusM_sy sM sM yM yM, (plusM_ab sM sM aM aM).mono ?_⟩, rfl⟩⟩
          have : r2.natAbs * 125012 ≤ 3 * 125012 := Nat.mul_le_mul_right _ (by omega)
          omega
        · rintro σ' H4 ⟨v, x3, ⟨e4, b4, M, hM, sM, yM, aM⟩, rfl⟩
          refine ⟨_, rfl, b, _, rfl, b4, by decide, log_le (by decide), fun r H5 r0 r1 e5 b5 => ⟨rfl, _, rfl, ite2 (fun _ => ?_) fun _ => ⟨_, rfl, q v H5 ⟨e4.trans e5, b5, M, e5.mt b4 hM, sM, yM, aM.mono (by decide)⟩⟩⟩⟩
          refine ⟨_, rfl, _, rfl, _, rfl, b, n, 3, rfl, b5, h4, by decide, fun v' U H6 hU uU aU e6 b6 => ?_⟩
          have hM6 := e6.mt b5 (e5.mt b4 hM)
          have big : ∀ {x y : Nat}, x ≤ 2 ^ 100 → y ≤ 2 ^ 100 → n * (x * y) < 2 ^ 399999 := fun hx hy => Nat.lt_of_le_of_lt (Nat.mul_le_mul hn4 (Nat.mul_le_mul hx hy)) (Nat.lt_trans (by decide : 4 * (2 ^ 100 * 2 ^ 100) < 2 ^ 203) (Nat.pow_lt_pow_right (by decide) (by decide)))
          have big1 : ∀ {x : Nat}, x ≤ 2 ^ 100 → x < 2 ^ 399999 := fun hx => Nat.lt_of_le_of_lt hx (Nat.pow_lt_pow_right (by decide) (by decide))
          refine ⟨v, v', n, M, U, rfl, hM6, hU, sM, uU.1, aM.wd (big1 (by decide)), aU.wd (big1 (by decide)), (Ab.mul uU.1.tr sM (aU.tr uU.1) aM).wd (big (by decide) (by decide)), fun v2 H7 e7 h7 => q v2 H7 ⟨e4.trans (e5.trans (e6.trans (But.of e7))), b6.same e7, _, h7, led_sq uU.1, Sy.led sM uU.1 yM, (Ab.led sM uU.1 aM aU).mono ?_⟩⟩
          exact Nat.le_trans (Nat.mul_le_mul hn4 (Nat.mul_le_mul_left _ (Nat.mul_le_mul_right _ hn4))) (by decide)
end
end K06

set_option maxHeartbeats 1000000
namespace K06
open PySem PySem.Spec PyProof.Rows L2 My ZN
section
variable {P : Program} {w : World} {K : PySem.W.Frag} {mg : Str → Option Value} {base : Heap} {A : Adr}
def BT : Nat := 10 ^ 31
def sp_wide (K : PySem.W.Frag) : Sp := fun vs H Q _ => ∃ (b : Addr) (n : Nat), vs = [.ref b, .int (n : Nat)] ∧ Bag H b ∧ N4 n ∧ ∀ v H', TabB K b n BT H H' v → Q v H'
theorem led_le {n x : Nat} (h : n ≤ 4) : n * (243 * (n * (x * 243))) ≤ 944784 * x := by
  have h1 : n * (x * 243) ≤ 4 * (x * 243) := Nat.mul_le_mul_right _ h
  have h2 : n * (243 * (n * (x * 243))) ≤ 4 * (243 * (4 * (x * 243))) := Nat.mul_le_mul h (Nat.mul_le_mul_left _ h1)
  omega
theorem ok__law_wide (T : Txt K mg A) : FnOk P w K mg base CX0 6 A.a__law_wide A.d__law_wide ["_law_bag_here", "_law_size_here"] (sp_wide K) := by
  have G__law_one_of : FnOk P w K mg base CX0 2 A.a__law_one_of A.d__law_one_of ["_law_bag_here", "_law_items"] (sp_one_of K) := ok__law_one_of T
  have G__law_matrix : FnOk P w K mg base CX0 3 A.a__law_matrix A.d__law_matrix ["_law_bag_here", "_law_size_here", "_law_most"] (sp_matrix K) := ok__law_matrix T
  have G__law_positive : FnOk P w K mg base CX0 5 A.a__law_positive A.d__law_positive ["_law_bag_here", "_law_size_here"] (sp_positive K) := ok__law_positive T
  have G__law_led : FnOk P w K mg base CX0 3 A.a__law_led A.d__law_led ["_law_table", "_law_matrix_here"] (sp_law_led K) := ok__law_led T
  have G__law_plus : FnOk P w K mg base CX0 1 A.a__law_plus A.d__law_plus ["_law_one", "_law_other", "_law_factor"] (sp_plus K) := ok__law_plus T
  refine T.f__law_wide.ok sc__law_wide (fun vs H Q E h => ?_) (fun cdv B out t H vs Q E hr h => ?_)
  · obtain ⟨b, n, rfl, _⟩ := h
    rfl
  · obtain ⟨b, n, rfl, bag, h4, q⟩ := h
    refine ⟨_, (pss_cons (ps_par (i := 2) (j := 3) (by rfl) sc__law_wide.nd rfl rfl (by decide) rfl rfl (pa_cons (pe_call G__law_positive (hr.mono (by decide)) (by rfl) T.g__law_positive T.f__law_positive.kp (b__law_positive T) .nil pass0 (pa_cons (pv 0) (pa_cons (pv 1) pa_nil))) (pa_cons (pe_call G__law_positive (hr.mono (by decide)) (by rfl) T.g__law_positive T.f__law_positive.kp (b__law_positive T) .nil pass0 (pa_cons (pv 0) (pa_cons (pv 1) pa_nil))) pa_nil)) (by rfl))
      (pss_cons (ps_set (i := 4) sc__law_wide.nd rfl (Or.inl rfl) (pe_call G__law_plus (hr.mono (by decide)) (by rfl) T.g__law_plus T.f__law_plus.kp (b__law_plus T) .nil pass0 (pa_cons (pv 3) (pa_cons (pv 2) (pa_cons (pe_call G__law_one_of (hr.mono (by decide)) (by rfl) T.g__law_one_of T.f__law_one_of.kp (b__law_one_of T) .nil pass0 (pa_cons (pv 0) (pa_cons (pe_lst (pa_cons pe_int (pa_cons pe_int (pa_cons pe_int (pa_cons (pe_op op_powW pe_int pe_int) (pa_cons (pe_op op_add (pe_op op_powW pe_int pe_int) pe_int) pa_nil)))))) pa_nil))) pa_nil)))))
      (pss_one (ps_ret (pe_call G__law_led (hr.mono (by decide)) (by rfl) T.g__law_led T.f__law_led.kp (b__law_led T) .nil pass0 (pa_cons (pv 4) (pa_cons (pe_call G__law_matrix (hr.mono (by decide)) (by rfl) T.g__law_matrix T.f__law_matrix.kp (b__law_matrix T) .nil pass0 (pa_cons (pv 0) (pa_cons (pv 1) (pa_cons pe_int pa_nil)))) pa_nil))))))), ?_⟩
    have hn4 := h4.four
    have big1 : ∀ {x : Nat}, x ≤ 2 ^ 200 → x < 2 ^ 399999 := fun hx => Nat.lt_of_le_of_lt hx (Nat.pow_lt_pow_right (by decide) (by decide))
    have big : ∀ {x y : Nat}, x ≤ 2 ^ 200 → y ≤ 2 ^ 200 → n * (x * y) < 2 ^ 399999 := fun hx hy => Nat.lt_of_le_of_lt (Nat.mul_le_mul hn4 (Nat.mul_le_mul hx hy)) (Nat.lt_trans (by decide : 4 * (2 ^ 200 * 2 ^ 200) < 2 ^ 403) (Nat.pow_lt_pow_right (by decide) (by decide)))
    refine ⟨_, rfl, _, rfl, b, n, rfl, bag, h4, fun v1 H1 ⟨e1, b1, M1, h1, s1, y1, a1⟩ => ?_⟩
    refine ⟨_, rfl, _, rfl, b, n, rfl, b1, h4, fun v2 H2 ⟨e2, b2, M2, h2, s2, y2, a2⟩ => ⟨_, _, rfl, ?_⟩⟩
    have h12 := e2.mt b1 h1
    refine ⟨_, rfl, _, rfl, _, rfl, _, _, rfl, rfl, ⟨by decide, by decide +kernel⟩, _, _, rfl, rfl, ⟨by decide, by decide +kernel⟩, _, _, rfl, rfl, by show 5 ≤ sizeLine; decide, fun p hp => ⟨b, p, _, rfl, b2.upd hp, b2.ne hp, .inl (.inl upd_same), by simp, by simp, fun v H3 hv e3 b3 => ?_⟩⟩
    obtain ⟨f, rfl, hf⟩ : ∃ f : Int, v = .int f ∧ f.natAbs ≤ 10 ^ 13 := by
      simp only [List.mem_cons, List.mem_nil_iff, or_false] at hv
      rcases hv with rfl | rfl | rfl | rfl | rfl <;> exact ⟨_, rfl, by decide +kernel⟩
    have e23 : But b H2 H3 := (But.of (same_new hp)).trans e3
    have h13 := e23.mt b2 h12
    have h23 := e23.mt b2 h2
    refine ⟨v2, v1, f, n, M2, M1, rfl, h23, h13, s2, s1, Wd.of hf (big1 (by decide)), a1.wd (big1 (by decide)), fun v4 H4 e4 h4' => ?_⟩
    have sP := plusM_sq (f := f) s2 s1
    have yP := plusM_sy (f := f) s2 s1 y2 y1
    have aP : Ab (10 ^ 24) (plusM M2 M1 f) := (plusM_ab s2 s1 a2 a1).mono (by
      have : f.natAbs * BP ≤ 10 ^ 13 * BP := Nat.mul_le_mul_right _ hf
      have z : BP + 10 ^ 13 * BP ≤ 10 ^ 24 := by decide
      omega)
    have b4 := b3.same e4
    refine ⟨_, rfl, _, rfl, _, rfl, b, n, 5, rfl, b4, h4, by decide, fun v5 U H5 hU uU aU e5 b5 => ?_⟩
    have aU' : Ab 243 U := aU
    refine ⟨v4, v5, n, plusM M2 M1 f, U, rfl, e5.mt b4 h4', hU, sP, uU.1, aP.wd (big1 (by decide)), aU'.wd (big1 (by decide)), (Ab.mul uU.1.tr sP (aU'.tr uU.1) aP).wd (big (by decide) (by decide)), fun v6 H6 e6 h6 => q v6 H6 ⟨e1.trans (e2.trans (e23.trans ((But.of e4).trans (e5.trans (But.of e6))))), b5.same e6, _, h6, led_sq uU.1, Sy.led sP uU.1 yP, (Ab.led sP uU.1 aP aU').mono ?_⟩⟩
    exact Nat.le_trans (led_le hn4) (by decide)
theorem bt_tt : 944784 * BT ≤ TT60 := by decide
theorem bt_tt1 : BT ≤ TT60 := by decide
/-- what the law gives to its parts -/
structure Fit (n : Nat) (S : List (List Int)) : Prop where
  sq : Sq n S
  sy : Sy n S
  ab : Ab BT S
structure Fmx (n : Nat) (U : List (List Int)) : Prop where
  un : Un n U
  ab : Ab 243 U
section
variable {n : Nat} {S U V : List (List Int)} {r : List Int}
theorem Fit.tab (s : Fit n S) : Tab n S := ⟨s.sq, s.ab.mono bt_tt1, s.sy⟩
theorem Fmx.mx (h4 : N4 n) (u : Fmx n U) : Mx n U := ⟨u.un.1, u.ab.mono (by decide), u.un.det h4⟩
theorem Fit.led (h4 : N4 n) (s : Fit n S) (u : Fmx n U) : Tab n (ledM n S U) := ⟨led_sq u.un.1, (Ab.led s.sq u.un.1 s.ab u.ab).mono (Nat.le_trans (led_le h4.four) bt_tt), Sy.led s.sq u.un.1 s.sy⟩
theorem Fit.mov (h4 : N4 n) (s : Fit n S) (u : Fmx n U) : Tab n (movM n S U) := ⟨mov_sq u.un.1, (Ab.mov s.sq u.un.1 s.ab u.ab).mono (Nat.le_trans (led_le h4.four) bt_tt), Sy.mov s.sq u.un.1 s.sy⟩
theorem Fmx.back (h4 : N4 n) (u : Fmx n U) : Mx n (undP U) := ⟨undP_sq u.un.1, (Ab.und h4 u.un.1 u.ab (by decide) (u.un.det h4)).mono (by decide), (u.un.und h4).det h4⟩
theorem Fmx.mul (h4 : N4 n) (u : Fmx n U) (v : Fmx n V) : Mx n (mulM n U V) := ⟨u.un.1.mul, (Ab.mul u.un.1 v.un.1 u.ab v.ab).mono (Nat.le_trans (Nat.mul_le_mul_right _ h4.four) (by decide)), (u.un.mul v.un).det h4⟩
theorem Fmx.row (h4 : N4 n) (u : Fmx n U) (hr : r.length = n) (hb : Rb (10 ^ 6) r) : Rw n (imgL U r) := ⟨img_length.trans u.un.1.len, (Rb.img u.un.1 hr u.ab hb).mono (Nat.le_trans (Nat.mul_le_mul_right _ h4.four) (by decide))⟩
theorem led_back (h4 : N4 n) (s : Sq n S) (u : Un n U) : ledM n (ledM n S U) (undP U) = S := by
  rw [← led_mul s u.1 (undP_sq u.1), mul_und h4 u.1 (u.det h4), led_id s]
theorem mov_back (h4 : N4 n) (s : Sq n S) (u : Un n U) : movM n (movM n S U) (undP U) = S := by
  rw [← mov_mul s (undP_sq u.1) u.1, und_mul h4 u.1 (u.det h4), mov_id s]
end
def sp_led_right (K : PySem.W.Frag) : Sp := fun vs H Q _ => ∃ (n : Nat) (v u x : V) (S U : List (List Int)) (r : List Int), vs = [.int (n : Nat), v, u, x] ∧ MtAt K H true v S ∧ MtAt K H true u U ∧ RwAt K H true x r ∧ N4 n ∧ Fit n S ∧ Fmx n U ∧ r.length = n ∧ Rb (10 ^ 6) r ∧ ∀ H', Same H H' → Q (.bl true) H'
theorem val_zero {n : Nat} {S : List (List Int)} (s : Sq n S) : valL S (List.replicate n 0) = 0 := by
  have hr : (List.replicate n (0 : Int)).length = n := by simp
  rw [val_Sm s hr, Sm_congr (g := fun _ => 0) fun i hi => by simp [hi], Sm_zero]
theorem ok__law_led_right (T : Txt K mg A) : FnOk P w K mg base CX0 9 A.a__law_led_right A.d__law_led_right ["_law_size_here", "_law_table", "_law_matrix_here", "_law_row"] (sp_led_right K) := by
  have G_matrix_back : FnOk P w K mg base CX0 8 A.a_matrix_back A.d_matrix_back ["matrix"] (sp_matrix_back K) := ok_matrix_back T
  have G_led_row : FnOk P w K mg base CX0 8 A.a_led_row A.d_led_row ["matrix", "row"] (sp_led_row K) := ok_led_row T
  have G_led_table : FnOk P w K mg base CX0 8 A.a_led_table A.d_led_table ["table", "matrix"] (sp_led_table K) := ok_led_table T
  have G_table_value : FnOk P w K mg base CX0 8 A.a_table_value A.d_table_value ["table", "row"] (sp_table_value K) := ok_table_value T
  have G__law_value : FnOk P w K mg base CX0 2 A.a__law_value A.d__law_value ["_law_table", "_law_row"] (sp_value K) := ok__law_value T
  have G__law_led : FnOk P w K mg base CX0 3 A.a__law_led A.d__law_led ["_law_table", "_law_matrix_here"] (sp_law_led K) := ok__law_led T
  refine T.f__law_led_right.ok sc__law_led_right (fun vs H Q E h => ?_) (fun cdv B out t H vs Q E hr h => ?_)
  · obtain ⟨n, v, u, x, S, U, r, rfl, _⟩ := h
    rfl
  · obtain ⟨n, v, u, x, S, U, r, rfl, hS, hU, hx, h4, fS, fU, hrl, hrb, q⟩ := h
    refine ⟨_, (pss_cons (ps_set (i := 4) sc__law_led_right.nd rfl (Or.inl rfl) (pe_call G_led_table (hr.mono (by decide)) (by rfl) T.g_led_table T.f_led_table.kp (b_led_table T) .nil pass0 (pa_cons (pv 1) (pa_cons (pv 2) pa_nil))))
      (pss_cons (ps_if (PW.pt (pw_or (pt_cmpR (op_neD hr.units) (pv 4) (pe_call G__law_led (hr.mono (by decide)) (by rfl) T.g__law_led T.f__law_led.kp (b__law_led T) .nil pass0 (pa_cons (pv 1) (pa_cons (pv 2) pa_nil))) (nomark _)) (pw_or1 (pt_cmpR op_ne (pe_call G_table_value (hr.mono (by decide)) (by rfl) T.g_table_value T.f_table_value.kp (b_table_value T) .nil pass0 (pa_cons (pv 4) (pa_cons (pv 3) pa_nil))) (pe_call G_table_value (hr.mono (by decide)) (by rfl) T.g_table_value T.f_table_value.kp (b_table_value T) .nil pass0 (pa_cons (pv 1) (pa_cons (pe_call G_led_row (hr.mono (by decide)) (by rfl) T.g_led_row T.f_led_row.kp (b_led_row T) .nil pass0 (pa_cons (pv 2) (pa_cons (pv 3) pa_nil))) pa_nil))) (nomark _))))) (pss_one (ps_ret pe_bl)) pss_nil)
      (pss_cons (ps_if (PW.pt (pw_or (pt_cmpR op_ne (pe_call G_table_value (hr.mono (by decide)) (by rfl) T.g_table_value T.f_table_value.kp (b_table_value T) .nil pass0 (pa_cons (pv 1) (pa_cons (pv 3) pa_nil))) (pe_call G__law_value (hr.mono (by decide)) (by rfl) T.g__law_value T.f__law_value.kp (b__law_value T) .nil pass0 (pa_cons (pv 1) (pa_cons (pv 3) pa_nil))) (nomark _)) (pw_or1 (pt_cmpR (op_neD hr.units) (pe_call G_led_table (hr.mono (by decide)) (by rfl) T.g_led_table T.f_led_table.kp (b_led_table T) .nil pass0 (pa_cons (pv 4) (pa_cons (pe_call G_matrix_back (hr.mono (by decide)) (by rfl) T.g_matrix_back T.f_matrix_back.kp (b_matrix_back T) .nil pass0 (pa_cons (pv 2) pa_nil)) pa_nil))) (pv 1) (nomark _))))) (pss_one (ps_ret pe_bl)) pss_nil)
      (pss_one (ps_ret (pe_cmpR op_eq (pe_call G_table_value (hr.mono (by decide)) (by rfl) T.g_table_value T.f_table_value.kp (b_table_value T) .nil pass0 (pa_cons (pv 1) (pa_cons (pe_op op_repC (pe_tup (pa_cons pe_int pa_nil)) (pv 0)) pa_nil))) pe_int (nomark _))))))), ?_⟩
    have tS := fS.tab
    have mU := fU.mx h4
    have tL := fS.led h4 fU
    have rw0 : Rw n r := ⟨hrl, hrb.mono (by decide)⟩
    refine ⟨_, rfl, _, rfl, v, u, n, S, U, rfl, hS, hU, h4, tS, mU, fun v1 H1 e1 h1 => ?_⟩
    refine ⟨_, rfl, _, rfl, _, rfl, v, u, n, S, U, rfl, hS.mono e1, hU.mono e1, tS.sq, mU.sq, tt_wd tS.ab, tt_wd mU.ab, mul_wd h4.four mU.sq.tr tS.sq (mU.ab.tr mU.sq) tS.ab, fun v2 H2 e2 h2 => ne_mat (h1.mono e2) h2 ⟨_, rfl, if_neg_of (by simp) ?_⟩⟩
    have e02 := e1.trans e2
    refine ⟨_, rfl, _, rfl, v1, x, n, ledM n S U, r, rfl, h1.mono e2, hx.mono e02, h4, tL, rw0, fun H3 e3 => ?_⟩
    have e03 := e02.trans e3
    refine ⟨_, rfl, _, rfl, _, rfl, u, x, n, U, r, rfl, hU.mono e03, hx.mono e03, h4, mU, rw0, fun v4 H4 e4 h4' => ?_⟩
    have e04 := e03.trans e4
    refine ⟨v, v4, n, S, imgL U r, rfl, hS.mono e04, h4', h4, tS, fU.row h4 hrl hrb, fun H5 e5 => ⟨rfl, _, rfl, if_neg_of (by rw [val_led tS.sq mU.sq hrl, dec_int]; simp) ?_⟩⟩
    have e05 := e04.trans e5
    refine ⟨_, rfl, _, rfl, v, x, n, S, r, rfl, hS.mono e05, hx.mono e05, h4, tS, rw0, fun H6 e6 => ?_⟩
    have e06 := e05.trans e6
    refine ⟨_, rfl, _, rfl, v, x, n, S, r, rfl, hS.mono e06, hx.mono e06, h4, tS, rw0, fun H7 e7 => ⟨rfl, _, rfl, if_neg_of (by rw [dec_int]; simp) ?_⟩⟩
    have e07 := e06.trans e7
    refine ⟨_, rfl, _, rfl, u, n, U, rfl, hU.mono e07, h4, mU, fun vb H8 e8 hb => ?_⟩
    have e08 := e07.trans e8
    have e18 : Same H1 H8 := e2.trans (e3.trans (e4.trans (e5.trans (e6.trans (e7.trans e8)))))
    refine ⟨v1, vb, n, ledM n S U, undP U, rfl, h1.mono e18, hb, h4, tL, fU.back h4, fun vl H9 e9 hl => ?_⟩
    have e09 := e08.trans e9
    refine ⟨_, rfl, ne_mat hl (hS.mono e09) ⟨_, rfl, if_neg_of (by rw [led_back h4 tS.sq fU.un]; simp) ?_⟩⟩
    refine ⟨_, rfl, by show 1 ≤ sizeLine; decide, fun p hp => ⟨_, rfl, rep_any (by have := h4.four; omega) (.inl (.inl upd_same)) fun p2 H10 e10 h10 => ?_⟩⟩
    have e010 := e09.trans ((same_new (o := .tup [.int 0]) hp).trans e10)
    refine ⟨v, .ref p2, n, S, List.replicate n 0, rfl, hS.mono e010, ⟨p2, rfl, by rw [show irow (List.replicate n 0) = List.replicate n (V.int 0) by simp [irow]]; exact h10⟩, h4, tS, ⟨by simp, fun y hy => by rw [(List.mem_replicate.mp hy).2]; exact Nat.zero_le _⟩, fun H11 e11 => ⟨rfl, ?_⟩⟩
    rw [val_zero tS.sq]
    exact q H11 (e010.trans e11)
def sp_both_right (K : PySem.W.Frag) : Sp := fun vs H Q _ => ∃ (n : Nat) (v u x : V) (S U W : List (List Int)), vs = [v, u, x] ∧ MtAt K H true v S ∧ MtAt K H true u U ∧ MtAt K H true x W ∧ N4 n ∧ Fit n S ∧ Fmx n U ∧ Fmx n W ∧ ∀ H', Same H H' → Q (.bl true) H'
theorem ok__law_both_right (T : Txt K mg A) : FnOk P w K mg base CX0 9 A.a__law_both_right A.d__law_both_right ["_law_table", "_law_one", "_law_other"] (sp_both_right K) := by
  have G_matrix_product : FnOk P w K mg base CX0 8 A.a_matrix_product A.d_matrix_product ["one", "other"] (sp_matrix_product K) := ok_matrix_product T
  have G_led_table : FnOk P w K mg base CX0 8 A.a_led_table A.d_led_table ["table", "matrix"] (sp_led_table K) := ok_led_table T
  have G_moved_table : FnOk P w K mg base CX0 8 A.a_moved_table A.d_moved_table ["table", "matrix"] (sp_moved_table K) := ok_moved_table T
  refine T.f__law_both_right.ok sc__law_both_right (fun vs H Q E h => ?_) (fun cdv B out t H vs Q E hr h => ?_)
  · obtain ⟨n, v, u, x, S, U, W, rfl, _⟩ := h
    rfl
  · obtain ⟨n, v, u, x, S, U, W, rfl, hS, hU, hW, h4, fS, fU, fW, q⟩ := h
    refine ⟨_, (pss_cons (ps_set (i := 3) sc__law_both_right.nd rfl (Or.inl rfl) (pe_call G_matrix_product (hr.mono (by decide)) (by rfl) T.g_matrix_product T.f_matrix_product.kp (b_matrix_product T) .nil pass0 (pa_cons (pv 1) (pa_cons (pv 2) pa_nil))))
      (pss_cons (ps_if (pt_cmpR (op_neD hr.units) (pe_call G_led_table (hr.mono (by decide)) (by rfl) T.g_led_table T.f_led_table.kp (b_led_table T) .nil pass0 (pa_cons (pv 0) (pa_cons (pv 3) pa_nil))) (pe_call G_led_table (hr.mono (by decide)) (by rfl) T.g_led_table T.f_led_table.kp (b_led_table T) .nil pass0 (pa_cons (pe_call G_led_table (hr.mono (by decide)) (by rfl) T.g_led_table T.f_led_table.kp (b_led_table T) .nil pass0 (pa_cons (pv 0) (pa_cons (pv 1) pa_nil))) (pa_cons (pv 2) pa_nil))) (nomark _)) (pss_one (ps_ret pe_bl)) pss_nil)
      (pss_one (ps_ret (pe_cmpR (op_eqD hr.units) (pe_call G_moved_table (hr.mono (by decide)) (by rfl) T.g_moved_table T.f_moved_table.kp (b_moved_table T) .nil pass0 (pa_cons (pv 0) (pa_cons (pv 3) pa_nil))) (pe_call G_moved_table (hr.mono (by decide)) (by rfl) T.g_moved_table T.f_moved_table.kp (b_moved_table T) .nil pass0 (pa_cons (pe_call G_moved_table (hr.mono (by decide)) (by rfl) T.g_moved_table T.f_moved_table.kp (b_moved_table T) .nil pass0 (pa_cons (pv 0) (pa_cons (pv 2) pa_nil))) (pa_cons (pv 1) pa_nil))) (nomark _)))))), ?_⟩
    have tS := fS.tab
    have mU := fU.mx h4
    have mW := fW.mx h4
    have mB := fU.mul h4 fW
    refine ⟨_, rfl, _, rfl, u, x, n, U, W, rfl, hU, hW, h4, mU, mW, fun v1 H1 e1 h1 => ?_⟩
    refine ⟨_, rfl, _, rfl, v, v1, n, S, mulM n U W, rfl, hS.mono e1, h1, h4, tS, mB, fun v2 H2 e2 h2 => ?_⟩
    have e02 := e1.trans e2
    refine ⟨_, rfl, _, rfl, v, u, n, S, U, rfl, hS.mono e02, hU.mono e02, h4, tS, mU, fun v3 H3 e3 h3 => ?_⟩
    have e03 := e02.trans e3
    refine ⟨_, rfl, v3, x, n, ledM n S U, W, rfl, h3, hW.mono e03, h4, fS.led h4 fU, mW, fun v5 H5 e5 h5 => ?_⟩
    have e05 := e03.trans e5
    refine ne_mat (h2.mono (e3.trans e5)) h5 ⟨_, rfl, if_neg_of (by rw [led_mul tS.sq mU.sq mW.sq]; simp) ?_⟩
    have e15 : Same H1 H5 := e2.trans (e3.trans e5)
    refine ⟨_, rfl, _, rfl, v, v1, n, S, mulM n U W, rfl, hS.mono e05, h1.mono e15, h4, tS, mB, fun v6 H6 e6 h6 => ?_⟩
    have e06 := e05.trans e6
    refine ⟨_, rfl, _, rfl, v, x, n, S, W, rfl, hS.mono e06, hW.mono e06, h4, tS, mW, fun v7 H7 e7 h7 => ?_⟩
    have e07 := e06.trans e7
    refine ⟨_, rfl, v7, u, n, movM n S W, U, rfl, h7, hU.mono e07, h4, fS.mov h4 fW, mU, fun v8 H8 e8 h8 => ?_⟩
    refine eq_mat (h6.mono (e7.trans e8)) h8 ?_
    rw [mov_mul tS.sq mU.sq mW.sq]
    have := q H8 (e07.trans e8)
    simpa using this
def sp_moved_right (K : PySem.W.Frag) : Sp := fun vs H Q _ => ∃ (n : Nat) (v o u x : V) (S O U : List (List Int)) (r : List Int), vs = [v, o, u, x] ∧ MtAt K H true v S ∧ MtAt K H true o O ∧ MtAt K H true u U ∧ RwAt K H true x r ∧ N4 n ∧ Fit n S ∧ Fit n O ∧ Fmx n U ∧ r.length = n ∧ Rb (10 ^ 6) r ∧ ∀ H', Same H H' → Q (.bl true) H'
theorem sq_tab {n : Nat} (h4 : N4 n) {r : List Int} {x : Nat} (hr : r.length = n) (hb : Rb x r) (hx : x * x ≤ TT60) : Tab n (sqM r) := by
  have h2 := h4.two
  have h44 := h4.four
  exact ⟨sqM_sq (by omega) (by omega) hr, (Ab.sq (by omega) (by omega) hr hb).mono hx, sq_sym (by omega) (by omega) hr⟩
theorem ok__law_moved_right (T : Txt K mg A) : FnOk P w K mg base CX0 9 A.a__law_moved_right A.d__law_moved_right ["_law_table", "_law_other", "_law_matrix_here", "_law_row"] (sp_moved_right K) := by
  have G_matrix_back : FnOk P w K mg base CX0 8 A.a_matrix_back A.d_matrix_back ["matrix"] (sp_matrix_back K) := ok_matrix_back T
  have G_square : FnOk P w K mg base CX0 8 A.a_square A.d_square ["row"] (sp_square K) := ok_square T
  have G_led_row : FnOk P w K mg base CX0 8 A.a_led_row A.d_led_row ["matrix", "row"] (sp_led_row K) := ok_led_row T
  have G_led_table : FnOk P w K mg base CX0 8 A.a_led_table A.d_led_table ["table", "matrix"] (sp_led_table K) := ok_led_table T
  have G_moved_table : FnOk P w K mg base CX0 8 A.a_moved_table A.d_moved_table ["table", "matrix"] (sp_moved_table K) := ok_moved_table T
  have G_table_value : FnOk P w K mg base CX0 8 A.a_table_value A.d_table_value ["table", "row"] (sp_table_value K) := ok_table_value T
  have G_together : FnOk P w K mg base CX0 8 A.a_together A.d_together ["one", "other"] (sp_together K) := ok_together T
  have G__law_moved : FnOk P w K mg base CX0 3 A.a__law_moved A.d__law_moved ["_law_table", "_law_matrix_here"] (sp_law_moved K) := ok__law_moved T
  have G__law_together : FnOk P w K mg base CX0 1 A.a__law_together A.d__law_together ["_law_one", "_law_other"] (sp_law_together K) := ok__law_together T
  refine T.f__law_moved_right.ok sc__law_moved_right (fun vs H Q E h => ?_) (fun cdv B out t H vs Q E hr h => ?_)
  · obtain ⟨n, v, o, u, x, S, O, U, r, rfl, _⟩ := h
    rfl
  · obtain ⟨n, v, o, u, x, S, O, U, r, rfl, hS, hO, hU, hx, h4, fS, fO, fU, hrl, hrb, q⟩ := h
    refine ⟨_, (pss_cons (ps_set (i := 4) sc__law_moved_right.nd rfl (Or.inl rfl) (pe_call G_moved_table (hr.mono (by decide)) (by rfl) T.g_moved_table T.f_moved_table.kp (b_moved_table T) .nil pass0 (pa_cons (pv 0) (pa_cons (pv 2) pa_nil))))
      (pss_cons (ps_if (PW.pt (pw_or (pt_cmpR (op_neD hr.units) (pv 4) (pe_call G__law_moved (hr.mono (by decide)) (by rfl) T.g__law_moved T.f__law_moved.kp (b__law_moved T) .nil pass0 (pa_cons (pv 0) (pa_cons (pv 2) pa_nil))) (nomark _)) (pw_or1 (pt_cmpR (op_neD hr.units) (pe_call G_moved_table (hr.mono (by decide)) (by rfl) T.g_moved_table T.f_moved_table.kp (b_moved_table T) .nil pass0 (pa_cons (pv 4) (pa_cons (pe_call G_matrix_back (hr.mono (by decide)) (by rfl) T.g_matrix_back T.f_matrix_back.kp (b_matrix_back T) .nil pass0 (pa_cons (pv 2) pa_nil)) pa_nil))) (pv 0) (nomark _))))) (pss_one (ps_ret pe_bl)) pss_nil)
      (pss_cons (ps_if (pt_cmpR (op_neD hr.units) (pe_call G_moved_table (hr.mono (by decide)) (by rfl) T.g_moved_table T.f_moved_table.kp (b_moved_table T) .nil pass0 (pa_cons (pe_call G_square (hr.mono (by decide)) (by rfl) T.g_square T.f_square.kp (b_square T) .nil pass0 (pa_cons (pv 3) pa_nil)) (pa_cons (pv 2) pa_nil))) (pe_call G_square (hr.mono (by decide)) (by rfl) T.g_square T.f_square.kp (b_square T) .nil pass0 (pa_cons (pe_call G_led_row (hr.mono (by decide)) (by rfl) T.g_led_row T.f_led_row.kp (b_led_row T) .nil pass0 (pa_cons (pv 2) (pa_cons (pv 3) pa_nil))) pa_nil)) (nomark _)) (pss_one (ps_ret pe_bl)) pss_nil)
      (pss_cons (ps_if (PW.pt (pw_or (pt_cmpR op_ne (pe_call G_together (hr.mono (by decide)) (by rfl) T.g_together T.f_together.kp (b_together T) .nil pass0 (pa_cons (pv 4) (pa_cons (pv 1) pa_nil))) (pe_call G_together (hr.mono (by decide)) (by rfl) T.g_together T.f_together.kp (b_together T) .nil pass0 (pa_cons (pv 0) (pa_cons (pe_call G_led_table (hr.mono (by decide)) (by rfl) T.g_led_table T.f_led_table.kp (b_led_table T) .nil pass0 (pa_cons (pv 1) (pa_cons (pv 2) pa_nil))) pa_nil))) (nomark _)) (pw_or1 (pt_cmpR op_ne (pe_call G_together (hr.mono (by decide)) (by rfl) T.g_together T.f_together.kp (b_together T) .nil pass0 (pa_cons (pv 1) (pa_cons (pe_call G_square (hr.mono (by decide)) (by rfl) T.g_square T.f_square.kp (b_square T) .nil pass0 (pa_cons (pv 3) pa_nil)) pa_nil))) (pe_call G_table_value (hr.mono (by decide)) (by rfl) T.g_table_value T.f_table_value.kp (b_table_value T) .nil pass0 (pa_cons (pv 1) (pa_cons (pv 3) pa_nil))) (nomark _))))) (pss_one (ps_ret pe_bl)) pss_nil)
      (pss_one (ps_ret (pe_and (pe_cmpR op_eq (pe_call G_together (hr.mono (by decide)) (by rfl) T.g_together T.f_together.kp (b_together T) .nil pass0 (pa_cons (pv 0) (pa_cons (pv 1) pa_nil))) (pe_call G__law_together (hr.mono (by decide)) (by rfl) T.g__law_together T.f__law_together.kp (b__law_together T) .nil pass0 (pa_cons (pv 0) (pa_cons (pv 1) pa_nil))) (nomark _)) (pe_one (pe_cmpR op_eq (pe_call G_together (hr.mono (by decide)) (by rfl) T.g_together T.f_together.kp (b_together T) .nil pass0 (pa_cons (pv 1) (pa_cons (pv 0) pa_nil))) (pe_call G_together (hr.mono (by decide)) (by rfl) T.g_together T.f_together.kp (b_together T) .nil pass0 (pa_cons (pv 0) (pa_cons (pv 1) pa_nil))) (nomark _)))))))))), ?_⟩
    have tS := fS.tab
    have tO := fO.tab
    have mU := fU.mx h4
    have tM := fS.mov h4 fU
    have tL := fO.led h4 fU
    have rw0 : Rw n r := ⟨hrl, hrb.mono (by decide)⟩
    have rwL := fU.row h4 hrl hrb
    have qr := sq_tab h4 hrl hrb (by decide)
    refine ⟨_, rfl, _, rfl, v, u, n, S, U, rfl, hS, hU, h4, tS, mU, fun v1 H1 e1 h1 => ?_⟩
    refine ⟨_, rfl, _, rfl, _, rfl, v, u, n, S, U, rfl, hS.mono e1, hU.mono e1, tS.sq, mU.sq, tt_wd tS.ab, tt_wd mU.ab, mul_wd h4.four mU.sq tS.sq mU.ab tS.ab, fun v2 H2 e2 h2 => ne_mat (h1.mono e2) h2 ⟨_, rfl, if_neg_of (by simp) ?_⟩⟩
    have e02 := e1.trans e2
    refine ⟨_, rfl, _, rfl, u, n, U, rfl, hU.mono e02, h4, mU, fun vb H3 e3 hb => ?_⟩
    have e03 := e02.trans e3
    refine ⟨v1, vb, n, movM n S U, undP U, rfl, h1.mono (e2.trans e3), hb, h4, tM, fU.back h4, fun vl H4 e4 hl => ?_⟩
    have e04 := e03.trans e4
    refine ⟨_, rfl, ne_mat hl (hS.mono e04) ⟨_, rfl, if_neg_of (by rw [mov_back h4 tS.sq fU.un]; simp) ?_⟩⟩
    -- squares
    refine ⟨_, rfl, x, n, r, rfl, hx.mono e04, h4, rw0, fun v5 H5 e5 h5 => ?_⟩
    have e05 := e04.trans e5
    refine ⟨_, rfl, v5, u, n, sqM r, U, rfl, h5, hU.mono e05, h4, qr, mU, fun v6 H6 e6 h6 => ?_⟩
    have e06 := e05.trans e6
    refine ⟨_, rfl, _, rfl, u, x, n, U, r, rfl, hU.mono e06, hx.mono e06, h4, mU, rw0, fun v7 H7 e7 h7 => ?_⟩
    have e07 := e06.trans e7
    refine ⟨v7, n, imgL U r, rfl, h7, h4, rwL, fun v8 H8 e8 h8 => ?_⟩
    have e08 := e07.trans e8
    refine ne_mat (h6.mono (e7.trans e8)) h8 ⟨_, rfl, if_neg_of (by rw [mov_square mU.sq hrl]; simp) ?_⟩
    -- together
    have e18 : Same H1 H8 := e2.trans (e3.trans (e4.trans (e5.trans (e6.trans (e7.trans e8)))))
    refine ⟨_, rfl, _, rfl, v1, o, n, movM n S U, O, rfl, h1.mono e18, hO.mono e08, h4, tM, tO, fun H9 e9 => ?_⟩
    have e09 := e08.trans e9
    refine ⟨_, rfl, _, rfl, _, rfl, o, u, n, O, U, rfl, hO.mono e09, hU.mono e09, h4, tO, mU, fun v10 H10 e10 h10 => ?_⟩
    have e010 := e09.trans e10
    refine ⟨v, v10, n, S, ledM n O U, rfl, hS.mono e010, h10, h4, tS, tL, fun H11 e11 => ⟨rfl, _, rfl, if_neg_of (by rw [tog_moved tS.sq tO.sq mU.sq, dec_int]; simp) ?_⟩⟩
    have e011 := e010.trans e11
    refine ⟨_, rfl, _, rfl, x, n, r, rfl, hx.mono e011, h4, rw0, fun v12 H12 e12 h12 => ?_⟩
    have e012 := e011.trans e12
    refine ⟨o, v12, n, O, sqM r, rfl, hO.mono e012, h12, h4, tO, qr, fun H13 e13 => ?_⟩
    have e013 := e012.trans e13
    refine ⟨_, rfl, _, rfl, o, x, n, O, r, rfl, hO.mono e013, hx.mono e013, h4, tO, rw0, fun H14 e14 => ⟨rfl, _, rfl, if_neg_of (by rw [tog_square tO.sq hrl, dec_int]; simp) ?_⟩⟩
    have e014 := e013.trans e14
    refine ⟨_, rfl, _, rfl, v, o, n, S, O, rfl, hS.mono e014, hO.mono e014, h4, tS, tO, fun H15 e15 => ?_⟩
    have e015 := e014.trans e15
    refine ⟨_, rfl, _, rfl, v, o, n, S, O, rfl, hS.mono e015, hO.mono e015, tS.sq, tO.sq, tt_wd tS.ab, tt_wd tO.ab, fun H16 e16 => ⟨rfl, _, rfl, if_pos_of (by simp) ?_⟩⟩
    have e016 := e015.trans e16
    refine ⟨_, rfl, _, rfl, o, v, n, O, S, rfl, hO.mono e016, hS.mono e016, h4, tO, tS, fun H17 e17 => ?_⟩
    have e017 := e016.trans e17
    refine ⟨_, rfl, _, rfl, v, o, n, S, O, rfl, hS.mono e017, hO.mono e017, h4, tS, tO, fun H18 e18 => ⟨rfl, ?_⟩⟩
    rw [tog_comm tO.sq tS.sq]
    have := q H18 (e017.trans e18)
    simpa using this
end
end K06

set_option maxHeartbeats 1000000
namespace K06
open PySem PySem.Spec PyProof.Rows L2 My ZN
section
variable {P : Program} {w : World} {K : PySem.W.Frag} {mg : Str → Option Value} {base : Heap} {A : Adr}
def sp_law (K : PySem.W.Frag) : Sp := fun vs H Q _ => ∃ (a : Addr) (ns : List Int), vs = [.ref a] ∧ SqL K H a (ns.map V.int) ∧ ns.length ≤ 63 ∧ ∀ H', Q (.bl true) H'
theorem but_back {b : Addr} {H H1 H2 : Hp} (e : Same H H1) (n : H b = none) (e2 : But b H1 H2) : Same H H2 := fun a o h => e2 a o (e a o h) (ne_of_none h n)
theorem TabB.fit {b : Addr} {n x : Nat} {H0 H : Hp} {v : V} (h : TabB K b n x H0 H v) (hx : x ≤ BT) : ∃ S, MtAt K H true v S ∧ Fit n S := let ⟨_, _, M, h1, h2, h3, h4⟩ := h; ⟨M, h1, h2, h3, h4.mono hx⟩
theorem mt2 {H : Hp} {p1 p2 p3 : Addr} {a b c d : Int} (h1 : H p1 = none) (h2 : (upd H p1 (.tup [.int a, .int b])) p2 = none) (h3 : (upd (upd H p1 (.tup [.int a, .int b])) p2 (.tup [.int c, .int d])) p3 = none) :
    MtAt K (upd (upd (upd H p1 (.tup [.int a, .int b])) p2 (.tup [.int c, .int d])) p3 (.tup [.ref p1, .ref p2])) true (.ref p3) [[a, b], [c, d]] ∧ Same H (upd (upd (upd H p1 (.tup [.int a, .int b])) p2 (.tup [.int c, .int d])) p3 (.tup [.ref p1, .ref p2])) := by
  have s2 := same_new (o := .tup [.int c, .int d]) h2
  have s3 := same_new (o := .tup [.ref p1, .ref p2]) h3
  refine ⟨⟨p3, [.ref p1, .ref p2], rfl, .inl (.inl upd_same), rfl, fun j r hj => ?_⟩, (same_new h1).trans (s2.trans s3)⟩
  match j, hj with
  | 0, hj => cases hj; exact ⟨p1, rfl, .inl (.inl (s3 _ _ (s2 _ _ upd_same)))⟩
  | 1, hj => cases hj; exact ⟨p2, rfl, .inl (.inl (s3 _ _ upd_same))⟩
  | j + 2, hj => simp at hj
def endD : PyData := .tuple [matD [[2, 3], [3, 6]], matD [[6, 3], [3, 2]]]
theorem ok_law (T : Txt K mg A) : FnG P w K mg base CX0 10 A.a_law A.d_law ["_law_script"] (sp_law K) := by
  have G_led_table : FnOk P w K mg base CX0 8 A.a_led_table A.d_led_table ["table", "matrix"] (sp_led_table K) := ok_led_table T
  have G_moved_table : FnOk P w K mg base CX0 8 A.a_moved_table A.d_moved_table ["table", "matrix"] (sp_moved_table K) := ok_moved_table T
  have G__law_bag : FnOk P w K mg base CX0 1 A.a__law_bag A.d__law_bag ["_law_script", "_law_spot"] (sp_bag K) := ok__law_bag T
  have G__law_size : FnOk P w K mg base CX0 3 A.a__law_size A.d__law_size ["_law_bag_here"] sp_size := ok__law_size T
  have G__law_some_row : FnOk P w K mg base CX0 3 A.a__law_some_row A.d__law_some_row ["_law_bag_here", "_law_size_here", "_law_spread"] (sp_some_row K) := ok__law_some_row T
  have G__law_some_table : FnOk P w K mg base CX0 3 A.a__law_some_table A.d__law_some_table ["_law_bag_here", "_law_size_here", "_law_spread"] (sp_some_table K) := ok__law_some_table T
  have G__law_matrix : FnOk P w K mg base CX0 3 A.a__law_matrix A.d__law_matrix ["_law_bag_here", "_law_size_here", "_law_most"] (sp_matrix K) := ok__law_matrix T
  have G__law_positive : FnOk P w K mg base CX0 5 A.a__law_positive A.d__law_positive ["_law_bag_here", "_law_size_here"] (sp_positive K) := ok__law_positive T
  have G__law_wide : FnOk P w K mg base CX0 6 A.a__law_wide A.d__law_wide ["_law_bag_here", "_law_size_here"] (sp_wide K) := ok__law_wide T
  have G__law_led_right : FnOk P w K mg base CX0 9 A.a__law_led_right A.d__law_led_right ["_law_size_here", "_law_table", "_law_matrix_here", "_law_row"] (sp_led_right K) := ok__law_led_right T
  have G__law_moved_right : FnOk P w K mg base CX0 9 A.a__law_moved_right A.d__law_moved_right ["_law_table", "_law_other", "_law_matrix_here", "_law_row"] (sp_moved_right K) := ok__law_moved_right T
  have G__law_both_right : FnOk P w K mg base CX0 9 A.a__law_both_right A.d__law_both_right ["_law_table", "_law_one", "_law_other"] (sp_both_right K) := ok__law_both_right T
  refine fun_g T.f_law sc_law (fun vs H Q E h => ?_) (fun cdv B out t H vs Q E hr hg h => ?_)
  · obtain ⟨a, ns, rfl, _⟩ := h
    rfl
  · obtain ⟨a, ns, rfl, hs, hl, q⟩ := h
    refine ⟨_, (pss_cons (ps_for PassesOwn.never rfl (pi_range1 (by rfl) T.n_range (pa_cons (pe_callB (call_max2 rfl) (by rfl) T.n_max (by decide +kernel) (pa_cons pe_int (pa_cons (pe_callB (call_min2 rfl) (by rfl) T.n_min (by decide +kernel) (pa_cons pe_int (pa_cons (pe_callB call_len_seq (by rfl) T.n_len (by decide +kernel) (pa_cons (pv 0) pa_nil)) pa_nil))) pa_nil))) pa_nil)) (pg_name (i := 1) sc_law.nd rfl (Or.inl rfl)) (pss_cons (ps_set (i := 2) sc_law.nd rfl (Or.inl rfl) (pe_call G__law_bag (hr.mono (by decide)) (by rfl) T.g__law_bag T.f__law_bag.kp (b__law_bag T) .nil pass0 (pa_cons (pv 0) (pa_cons (pv 1) pa_nil))))
      (pss_cons (ps_set (i := 3) sc_law.nd rfl (Or.inl rfl) (pe_call G__law_size (hr.mono (by decide)) (by rfl) T.g__law_size T.f__law_size.kp (b__law_size T) .nil pass0 (pa_cons (pv 2) pa_nil)))
      (pss_cons (ps_set (i := 4) sc_law.nd rfl (Or.inl rfl) (pe_lst (pa_cons (pe_call G__law_positive (hr.mono (by decide)) (by rfl) T.g__law_positive T.f__law_positive.kp (b__law_positive T) .nil pass0 (pa_cons (pv 2) (pa_cons (pv 3) pa_nil))) (pa_cons (pe_call G__law_some_table (hr.mono (by decide)) (by rfl) T.g__law_some_table T.f__law_some_table.kp (b__law_some_table T) .nil pass0 (pa_cons (pv 2) (pa_cons (pv 3) (pa_cons pe_int pa_nil)))) (pa_cons (pe_call G__law_wide (hr.mono (by decide)) (by rfl) T.g__law_wide T.f__law_wide.kp (b__law_wide T) .nil pass0 (pa_cons (pv 2) (pa_cons (pv 3) pa_nil))) (pa_cons (pe_call G__law_some_table (hr.mono (by decide)) (by rfl) T.g__law_some_table T.f__law_some_table.kp (b__law_some_table T) .nil pass0 (pa_cons (pv 2) (pa_cons (pv 3) (pa_cons (pe_op op_powW pe_int pe_int) pa_nil)))) pa_nil))))))
      (pss_cons (ps_par (i := 5) (j := 6) (by rfl) sc_law.nd rfl rfl (by decide) rfl rfl (pa_cons (pe_call G__law_matrix (hr.mono (by decide)) (by rfl) T.g__law_matrix T.f__law_matrix.kp (b__law_matrix T) .nil pass0 (pa_cons (pv 2) (pa_cons (pv 3) (pa_cons pe_int pa_nil)))) (pa_cons (pe_call G__law_matrix (hr.mono (by decide)) (by rfl) T.g__law_matrix T.f__law_matrix.kp (b__law_matrix T) .nil pass0 (pa_cons (pv 2) (pa_cons (pv 3) (pa_cons pe_int pa_nil)))) pa_nil)) (by rfl))
      (pss_cons (ps_set (i := 7) sc_law.nd rfl (Or.inl rfl) (pe_call G__law_some_row (hr.mono (by decide)) (by rfl) T.g__law_some_row T.f__law_some_row.kp (b__law_some_row T) .nil pass0 (pa_cons (pv 2) (pa_cons (pv 3) (pa_cons (pe_op op_powW pe_int pe_int) pa_nil)))))
      (pss_one (ps_for PassesOwn.never rfl (ZN.pi_enumK (by rfl) T.n_enumerate (pa_cons (pv 4) pa_nil)) (pg_tup (by rfl) (pgs_cons (pg_name (i := 8) sc_law.nd rfl (Or.inl rfl)) (pgs_cons (pg_name (i := 9) sc_law.nd rfl (Or.inl rfl)) pgs_nil))) (pss_cons (ps_if (PW.pt (pw_or (pt_not (pt_val (pe_call G__law_led_right (hr.mono (by decide)) (by rfl) T.g__law_led_right T.f__law_led_right.kp (b__law_led_right T) .nil pass0 (pa_cons (pv 3) (pa_cons (pv 9) (pa_cons (pv 5) (pa_cons (pv 7) pa_nil))))))) (pw_or1 (pt_not (pt_val (pe_call G__law_moved_right (hr.mono (by decide)) (by rfl) T.g__law_moved_right T.f__law_moved_right.kp (b__law_moved_right T) .nil pass0 (pa_cons (pv 9) (pa_cons (pe_ix ix_seq (pv 4) (pe_op op_sub (pv 8) pe_int) (fun _ _ => rfl)) (pa_cons (pv 6) (pa_cons (pv 7) pa_nil)))))))))) (pss_one (ps_ret pe_bl)) pss_nil)
      (pss_one (ps_if (pt_not (pt_val (pe_call G__law_both_right (hr.mono (by decide)) (by rfl) T.g__law_both_right T.f__law_both_right.kp (b__law_both_right T) .nil pass0 (pa_cons (pv 9) (pa_cons (pv 5) (pa_cons (pv 6) pa_nil)))))) (pss_one (ps_ret pe_bl)) pss_nil)))))))))))
      (pss_cons (ps_asg (pe_tup (pa_cons (pe_tup (pa_cons (pe_tup (pa_cons pe_int (pa_cons pe_int pa_nil))) (pa_cons (pe_tup (pa_cons pe_int (pa_cons pe_int pa_nil))) pa_nil))) (pa_cons (pe_tup (pa_cons (pe_tup (pa_cons pe_int (pa_cons pe_int pa_nil))) (pa_cons (pe_tup (pa_cons pe_int (pa_cons pe_int pa_nil))) pa_nil))) pa_nil))) (pg_tup (by rfl) (pgs_cons (pg_name (i := 10) sc_law.nd rfl (Or.inl rfl)) (pgs_cons (pg_name (i := 11) sc_law.nd rfl (Or.inl rfl)) pgs_nil))))
      (pss_one (ps_ret (pe_cmpR (op_eqD hr.units) (pe_tup (pa_cons (pe_call G_led_table (hr.mono (by decide)) (by rfl) T.g_led_table T.f_led_table.kp (b_led_table T) .nil pass0 (pa_cons (pv 11) (pa_cons (pv 10) pa_nil))) (pa_cons (pe_call G_moved_table (hr.mono (by decide)) (by rfl) T.g_moved_table T.f_moved_table.kp (b_moved_table T) .nil pass0 (pa_cons (pv 11) (pa_cons (pv 10) pa_nil))) pa_nil))) (pe_tup (pa_cons (pe_tup (pa_cons (pe_tup (pa_cons pe_int (pa_cons pe_int pa_nil))) (pa_cons (pe_tup (pa_cons pe_int (pa_cons pe_int pa_nil))) pa_nil))) (pa_cons (pe_tup (pa_cons (pe_tup (pa_cons pe_int (pa_cons pe_int pa_nil))) (pa_cons (pe_tup (pa_cons pe_int (pa_cons pe_int pa_nil))) pa_nil))) pa_nil))) (nomark _)))))), ?_⟩
    have bd : ∀ k : Int, 0 ≤ k → (1 : Int) ≤ (if (if k < 3 then k else 3) > 1 then (if k < 3 then k else 3) else 1) ∧ (if (if k < 3 then k else 3) > 1 then (if k < 3 then k else 3) else 1) ≤ 3 := fun k h => by
      split <;> split <;> omega
    have bn := bd ((ns.map V.int).length : Int) (by omega)
    refine ⟨_, rfl, a, _, rfl, Or.inl hs, _, _, rfl, _, _, rfl, _, rfl, by omega, by omega, ?_⟩
    refine for_range (lo := 0) (n := _) (fun i σ H' => Same H H' ∧ ∃ x1 x2 x3 x4 x5 x6 x7 x8 x9 : Option V, σ = [some (.ref a), x1, x2, x3, x4, x5, x6, x7, x8, x9, none, none]) ⟨Same.refl _, none, none, none, none, none, none, none, none, none, rfl⟩ ?_ ?_
    · rintro i σ H1 hi ⟨e1, x1, x2, x3, x4, x5, x6, x7, x8, x9, rfl⟩
      refine ⟨_, rfl, _, rfl, a, ns, 0 + i, rfl, same_l e1 hs, by omega, by omega, fun b H2 e2 n2 b2 => ?_⟩
      refine ⟨_, rfl, b, rfl, b2, fun n H3 h4 e3 b3 => ?_⟩
      refine ⟨_, rfl, _, rfl, b, n, rfl, b3, h4, fun v1 H4 t1 => ?_⟩
      refine ⟨_, rfl, _, rfl, b, n, 5, rfl, t1.2.1, h4, by decide, fun v2 M2 H5 m2 s2 a2 y2 e5 b5 => ?_⟩
      refine ⟨_, rfl, _, rfl, b, n, rfl, b5, h4, fun v3 H6 t3 => ?_⟩
      refine ⟨_, rfl, _, rfl, _, _, rfl, rfl, ⟨by decide, by decide +kernel⟩, b, n, 10 ^ 20, by rfl, t3.2.1, h4, by decide, fun v4 M4 H7 m4 s4 a4 y4 e7 b7 => ?_⟩
      refine ⟨by show 4 ≤ sizeLine; decide, fun p hp => ?_⟩
      have e8 := same_new (o := .lst [v1, v2, v3, v4]) hp
      have b8 := b7.same e8
      have hL8 : (upd H7 p (.lst [v1, v2, v3, v4])) p = some (.lst [v1, v2, v3, v4]) := upd_same
      have hpb : p ≠ b := b7.ne hp
      generalize upd H7 p (.lst [v1, v2, v3, v4]) = H8 at e8 b8 hL8 ⊢
      refine ⟨_, rfl, _, rfl, b, n, 5, rfl, b8, h4, by decide, fun u1 U1 H9 m9 s9 a9 e9 b9 => ?_⟩
      refine ⟨_, rfl, _, rfl, b, n, 5, rfl, b9, h4, by decide, fun u2 U2 H10 m10 s10 a10 e10 b10 => ⟨_, _, rfl, ?_⟩⟩
      refine ⟨_, rfl, _, rfl, _, _, rfl, rfl, ⟨by decide, by decide +kernel⟩, b, n, 10 ^ 6, by rfl, b10, h4, by decide, by decide, fun v r H11 hr11 hl11 hb11 e11 b11 => ?_⟩
      have f1 := t1.fit (by decide)
      have e47 : But b H4 H7 := e5.trans (t3.1.trans e7)
      have e711 : But b H7 H11 := (But.of e8).trans (e9.trans (e10.trans e11))
      have f3 := t3.fit (Nat.le_refl _)
      have fits : ∀ (k : Nat) z, [v1, v2, v3, v4][k]? = some z → ∃ S, MtAt K H11 true z S ∧ Fit n S := by
        intro k z hz
        match k, hz with
        | 0, hz =>
          cases hz
          obtain ⟨S, g1, g2⟩ := f1
          exact ⟨S, (e47.trans e711).mt t1.2.1 g1, g2⟩
        | 1, hz =>
          cases hz
          exact ⟨M2, (t3.1.trans (e7.trans e711)).mt b5 m2, s2, y2, a2.mono (by decide)⟩
        | 2, hz =>
          cases hz
          obtain ⟨S, g1, g2⟩ := f3
          exact ⟨S, (e7.trans e711).mt t3.2.1 g1, g2⟩
        | 3, hz =>
          cases hz
          exact ⟨M4, e711.mt b7 m4, s4, y4, a4.mono (by decide)⟩
        | k + 4, hz => simp at hz
      have hL11 : SqL K H11 p [v1, v2, v3, v4] := .inl (.inl ((e9.trans (e10.trans e11)) p _ hL8 hpb))
      have mU1 := (e10.trans e11).mt b9 m9
      have mU2 := e11.mt b10 m10
      have fU1 : Fmx n U1 := ⟨s9, a9⟩
      have fU2 : Fmx n U2 := ⟨s10, a10⟩
      have e111 : Same H H11 := but_back (e1.trans e2) (e1.free n2) (e3.trans (t1.1.trans (e47.trans e711)))
      refine ⟨_, rfl, false, p, _, rfl, hL11, for_it (walk_enumK (K := K) (k := false) (a := p) (xs := [v1, v2, v3, v4])) (fun k σ H' => Same H11 H' ∧ ∃ y8 y9 : Option V, σ = [some (.ref a), some (.int (0 + i)), some (.ref b), some (.int (n : Nat)), some (.ref p), some u1, some u2, some v, y8, y9, none, none])
        ⟨Same.refl _, x8, x9, rfl⟩ (fun k σ H' _ h => same_l h.1 hL11) ?_ ?_⟩
      · rintro k x σ H12 H13 hk ⟨e12, y8, y9, rfl⟩ ⟨Tt, xx, yy, rfl, hT, rfl, hx, hy⟩
        obtain rfl : V.int (k : Nat) = xx := by simpa using hx
        obtain ⟨S, mS, fS⟩ := fits k yy hy
        have hk4 : k < 4 := hk
        obtain ⟨z, hz, hzat⟩ : ∃ z, (∃ j, [v1, v2, v3, v4][j]? = some z) ∧ atI [v1, v2, v3, v4] ((k : Int) - 1) = some z := by
          rcases lt4 hk4 with rfl | rfl | rfl | rfl
          · exact ⟨v4, ⟨3, rfl⟩, rfl⟩
          · exact ⟨v1, ⟨0, rfl⟩, rfl⟩
          · exact ⟨v2, ⟨1, rfl⟩, rfl⟩
          · exact ⟨v3, ⟨2, rfl⟩, rfl⟩
        obtain ⟨j, hj⟩ := hz
        obtain ⟨O, mO, fO⟩ := fits j z hj
        have e13 : Same H12 (upd H12 Tt (.tup [.int (k : Nat), yy])) := same_new hT
        refine ⟨Tt, _, rfl, .inl (.inl upd_same), rfl, _, _, rfl, _, _, rfl, rfl, ?_⟩
        generalize upd H12 Tt (.tup [.int (k : Nat), yy]) = H13 at e13 ⊢
        have e113 := e12.trans e13
        refine ⟨_, rfl, _, rfl, _, rfl, _, rfl, n, yy, u1, v, S, U1, r, rfl, mS.mono e113, mU1.mono e113, hr11.mono e113, h4, fS, fU1, hl11, hb11, fun H14 e14 => ⟨_, rfl, iteF ?_⟩⟩
        have e114 := e113.trans e14
        refine ⟨_, rfl, _, rfl, _, rfl, _, _, rfl, rfl, .inl ⟨p, _, _, z, rfl, rfl, same_l e114 hL11, hzat, ?_⟩⟩
        refine ⟨_, rfl, _, rfl, n, yy, z, u2, v, S, O, U2, r, rfl, mS.mono e114, mO.mono e114, mU2.mono e114, hr11.mono e114, h4, fS, fO, fU2, hl11, hb11, fun H15 e15 => ⟨_, rfl, iteF ?_⟩⟩
        have e115 := e114.trans e15
        refine ⟨_, rfl, _, rfl, _, rfl, n, yy, u1, u2, S, U1, U2, rfl, mS.mono e115, mU1.mono e115, mU2.mono e115, h4, fS, fU1, fU2, fun H16 e16 => ⟨_, rfl, iteF ?_⟩⟩
        exact ⟨e115.trans e16, _, _, rfl⟩
      · rintro σ H12 ⟨e12, y8, y9, rfl⟩
        exact ⟨e111.trans e12, _, _, _, _, _, _, _, _, _, rfl⟩
    · rintro σ H1 ⟨e1, x1, x2, x3, x4, x5, x6, x7, x8, x9, rfl⟩
      have l2 : 2 ≤ sizeLine := by decide
      refine ⟨l2, fun p1 h1 => ⟨l2, fun p2 h2 => ⟨l2, fun p3 h3 => ?_⟩⟩⟩
      obtain ⟨mt, st⟩ := mt2 (K := K) h1 h2 h3
      generalize upd (upd (upd H1 p1 (.tup [.int 1, .int 1])) p2 (.tup [.int 0, .int 1])) p3 (.tup [.ref p1, .ref p2]) = H3 at mt st ⊢
      refine ⟨l2, fun p4 h4 => ⟨l2, fun p5 h5 => ⟨l2, fun p6 h6 => ?_⟩⟩⟩
      obtain ⟨mp, sp⟩ := mt2 (K := K) h4 h5 h6
      have mt6 := mt.mono sp
      generalize upd (upd (upd H3 p4 (.tup [.int 2, .int 1])) p5 (.tup [.int 1, .int 2])) p6 (.tup [.ref p4, .ref p5]) = H6 at mp sp mt6 ⊢
      refine ⟨l2, fun p7 h7 => ⟨p7, _, rfl, .inl (.inl upd_same), rfl, _, _, rfl, _, _, rfl, rfl, ?_⟩⟩
      have s7 := same_new (o := .tup [.ref p3, .ref p6]) h7
      have mt7 := mt6.mono s7
      have mp7 := mp.mono s7
      generalize upd H6 p7 (.tup [.ref p3, .ref p6]) = H7 at mt7 mp7 ⊢
      have tP : Tab 2 [[2, 1], [1, 2]] := ⟨⟨rfl, by decide, by decide, by decide⟩, by unfold Ab; decide, rfl⟩
      have mT : Mx 2 [[1, 1], [0, 1]] := ⟨⟨rfl, by decide, by decide, by decide⟩, by unfold Ab; decide, rfl⟩
      refine ⟨_, rfl, _, rfl, .ref p6, .ref p3, 2, _, _, rfl, mp7, mt7, .inl rfl, tP, mT, fun w1 H8 e8 m8 => ?_⟩
      refine ⟨_, rfl, _, rfl, .ref p6, .ref p3, 2, _, _, rfl, mp7.mono e8, mt7.mono e8, .inl rfl, tP, mT, fun w2 H9 e9 m9 => ?_⟩
      have m89 := m8.mono e9
      refine ⟨l2, fun p10 h10 => ?_⟩
      have s10 := same_new (o := .tup [w1, w2]) h10
      have d10 : (upd H9 p10 (.tup [w1, w2])) p10 = some (.tup [w1, w2]) := upd_same
      have m8a := m89.mono s10
      have m9a := m9.mono s10
      generalize upd H9 p10 (.tup [w1, w2]) = H10 at d10 m8a m9a ⊢
      refine ⟨l2, fun q1 g1 => ⟨l2, fun q2 g2 => ⟨l2, fun q3 g3 => ?_⟩⟩⟩
      obtain ⟨ma, sa⟩ := mt2 (K := K) g1 g2 g3
      have d11 := sa _ _ d10
      have m8b := m8a.mono sa
      have m9b := m9a.mono sa
      generalize upd (upd (upd H10 q1 (.tup [.int 2, .int 3])) q2 (.tup [.int 3, .int 6])) q3 (.tup [.ref q1, .ref q2]) = H11 at ma d11 m8b m9b ⊢
      refine ⟨l2, fun q4 g4 => ⟨l2, fun q5 g5 => ⟨l2, fun q6 g6 => ?_⟩⟩⟩
      obtain ⟨mb, sb⟩ := mt2 (K := K) g4 g5 g6
      have d12 := sb _ _ d11
      have m8c := m8b.mono sb
      have m9c := m9b.mono sb
      have mac := ma.mono sb
      generalize upd (upd (upd H11 q4 (.tup [.int 6, .int 3])) q5 (.tup [.int 3, .int 2])) q6 (.tup [.ref q4, .ref q5]) = H12 at mb d12 m8c m9c mac ⊢
      refine ⟨l2, fun q7 g7 => ?_⟩
      have s13 := same_new (o := .tup [.ref q3, .ref q6]) g7
      have dA : Dp K (upd H12 q7 (.tup [.ref q3, .ref q6])) (.ref p10) endD := .tup (.inl (.inl (s13 _ _ d12))) (.cons (mt_dp (m8c.mono s13)) (.cons (mt_dp (m9c.mono s13)) .nil))
      have dB : Dp K (upd H12 q7 (.tup [.ref q3, .ref q6])) (.ref q7) endD := .tup (.inl (.inl upd_same)) (.cons (mt_dp (mac.mono s13)) (.cons (mt_dp (mb.mono s13)) .nil))
      refine ⟨endD, endD, dA, dB, by decide +kernel, by decide +kernel, ?_⟩
      rw [SeqAt.eqv_refl_plain endD rfl]
      exact q _
end
end K06

set_option maxHeartbeats 1000000
namespace K06
open PySem PySem.Spec PyProof.Rows L2 My ZN
theorem tup_mk {K : PySem.W.Frag} {h : Heap} {mg : Str → Option Value} {x : Str} {t : Addr} {xs : List V} {o : Obj} {its : Array Value} {n : Nat} (inK : K.In h) (names : h.Ns mainGlobals mg)
    (a : PySem.W.nsIn K mainGlobals x = some (some (.ref t))) (l : K.lookup t = some o) (r : o.cls = .type "tuple" ∧ o.data = .seq its n ∧ its.size ≤ sizeLine ∧ Vals xs its.toList) :
    ∃ t : Addr, mg x = some (.ref t) ∧ ∀ H, SqT K H t xs := ⟨t, PySem.W.mg_of inK names a, fun _ => .inr ⟨o, its, n, l, r⟩⟩
theorem bind_law {K : PySem.W.Frag} {f : Addr} {fd : FuncData} (F : Fun K "law" "law" s_law f fd) (s : Shared) (u : Value) : BindsTo s fd ⟨[u], []⟩ [("_law_script", u)] := by
  obtain ⟨oc, od, kV, doc, pm, an, cdv, ct, osl, rfl, _, _⟩ := F.ex
  exact .of_eq rfl
theorem def_mk {K : PySem.W.Frag} {h : Heap} {mg : Str → Option Value} {x : Str} {st : Stmt} {f : Addr} {oc : Value} {od an : Option Addr} {osl : Array (Option Value)}
    {kV doc pm cdv ct : Value} (inK : K.In h) (names : h.Ns mainGlobals mg) (a : PySem.W.nsIn K mainGlobals x = some (some (.ref f)))
    (l : K.lookup f = some ⟨oc, od, .func (PySem.W.fnOf x x (defArgs st) (defBody st) (defScope st) .none kV doc pm an cdv ct), osl⟩)
    (c : PySem.W.codeIn K cdv x = true) (k : PySem.W.keepIn K (.ref f) = true) : ∃ (f : Addr) (fd : FuncData), mg x = some (.ref f) ∧ Fun K x x st f fd :=
  ⟨f, _, PySem.W.mg_of inK names a, fun_mk l c k⟩
theorem con_mk {K : PySem.W.Frag} {h : Heap} {mg : Str → Option Value} {x : Str} {v : V} {u : Value} (inK : K.In h) (names : h.Ns mainGlobals mg)
    (a : PySem.W.nsIn K mainGlobals x = some (some u)) (r : RelV v u) : ∃ u : Value, mg x = some u ∧ RelV v u := ⟨u, PySem.W.mg_of inK names a, r⟩
end K06
open PySem PySem.W PyProof.Rows
set_option maxRecDepth 100000 in
set_option maxHeartbeats 0 in
theorem PySem.Challenge.cw_ballgrids_k06_whole_led_and_moved_tables_holds : PySem.Challenge.rw_ballgrids_k06_whole_led_and_moved_tables.Holds := by
  w_on; o_law; k_head; (case hw => w_witness2)
  k_fill
  refine My.walk_g (l := PySem.Challenge.rw_ballgrids_k06_whole_led_and_moved_tables) (n := 63) (k := 10) (x := "_law_script") (sp := K06.sp_law) rfl (by decide) rfl ⟨rfl, by decide, by decide⟩ (fun w h Y => PySem.W.kIn_of Y) ?F (fun K H a ns hl _ hS => ⟨a, ns, rfl, hS, hl, fun _ => rfl⟩)
  case F =>
    intro w mg fa h KX G hmg
    obtain ⟨a_is_whole, d_is_whole, g_is_whole, f_is_whole⟩ : ∃ (f : Addr) (fd : FuncData), mg "is_whole" = some (.ref f) ∧ L2.Fun _ "is_whole" "is_whole" K06.s_is_whole f fd := by
      refine' K06.def_mk (x := "is_whole") (st := K06.s_is_whole) KX G ?a ?l ?c ?k
      (case a => k_is); (case l => k_is); (case c => k_is); (case k => k_is)
    obtain ⟨a_is_integer, d_is_integer, g_is_integer, f_is_integer⟩ : ∃ (f : Addr) (fd : FuncData), mg "is_integer" = some (.ref f) ∧ L2.Fun _ "is_integer" "is_integer" K06.s_is_integer f fd := by
      refine' K06.def_mk (x := "is_integer") (st := K06.s_is_integer) KX G ?a ?l ?c ?k
      (case a => k_is); (case l => k_is); (case c => k_is); (case k => k_is)
    obtain ⟨a_are_integers, d_are_integers, g_are_integers, f_are_integers⟩ : ∃ (f : Addr) (fd : FuncData), mg "are_integers" = some (.ref f) ∧ L2.Fun _ "are_integers" "are_integers" K06.s_are_integers f fd := by
      refine' K06.def_mk (x := "are_integers") (st := K06.s_are_integers) KX G ?a ?l ?c ?k
      (case a => k_is); (case l => k_is); (case c => k_is); (case k => k_is)
    obtain ⟨a_dot, d_dot, g_dot, f_dot⟩ : ∃ (f : Addr) (fd : FuncData), mg "dot" = some (.ref f) ∧ L2.Fun _ "dot" "dot" K06.s_dot f fd := by
      refine' K06.def_mk (x := "dot") (st := K06.s_dot) KX G ?a ?l ?c ?k
      (case a => k_is); (case l => k_is); (case c => k_is); (case k => k_is)
    obtain ⟨a_turned, d_turned, g_turned, f_turned⟩ : ∃ (f : Addr) (fd : FuncData), mg "turned" = some (.ref f) ∧ L2.Fun _ "turned" "turned" K06.s_turned f fd := by
      refine' K06.def_mk (x := "turned") (st := K06.s_turned) KX G ?a ?l ?c ?k
      (case a => k_is); (case l => k_is); (case c => k_is); (case k => k_is)
    obtain ⟨a_multiplied, d_multiplied, g_multiplied, f_multiplied⟩ : ∃ (f : Addr) (fd : FuncData), mg "multiplied" = some (.ref f) ∧ L2.Fun _ "multiplied" "multiplied" K06.s_multiplied f fd := by
      refine' K06.def_mk (x := "multiplied") (st := K06.s_multiplied) KX G ?a ?l ?c ?k
      (case a => k_is); (case l => k_is); (case c => k_is); (case k => k_is)
    obtain ⟨a_first_other_than_0, d_first_other_than_0, g_first_other_than_0, f_first_other_than_0⟩ : ∃ (f : Addr) (fd : FuncData), mg "first_other_than_0" = some (.ref f) ∧ L2.Fun _ "first_other_than_0" "first_other_than_0" K06.s_first_other_than_0 f fd := by
      refine' K06.def_mk (x := "first_other_than_0") (st := K06.s_first_other_than_0) KX G ?a ?l ?c ?k
      (case a => k_is); (case l => k_is); (case c => k_is); (case k => k_is)
    obtain ⟨a_without, d_without, g_without, f_without⟩ : ∃ (f : Addr) (fd : FuncData), mg "without" = some (.ref f) ∧ L2.Fun _ "without" "without" K06.s_without f fd := by
      refine' K06.def_mk (x := "without") (st := K06.s_without) KX G ?a ?l ?c ?k
      (case a => k_is); (case l => k_is); (case c => k_is); (case k => k_is)
    obtain ⟨a_cleared_line, d_cleared_line, g_cleared_line, f_cleared_line⟩ : ∃ (f : Addr) (fd : FuncData), mg "cleared_line" = some (.ref f) ∧ L2.Fun _ "cleared_line" "cleared_line" K06.s_cleared_line f fd := by
      refine' K06.def_mk (x := "cleared_line") (st := K06.s_cleared_line) KX G ?a ?l ?c ?k
      (case a => k_is); (case l => k_is); (case c => k_is); (case k => k_is)
    obtain ⟨a_determinant_of_two, d_determinant_of_two, g_determinant_of_two, f_determinant_of_two⟩ : ∃ (f : Addr) (fd : FuncData), mg "determinant_of_two" = some (.ref f) ∧ L2.Fun _ "determinant_of_two" "determinant_of_two" K06.s_determinant_of_two f fd := by
      refine' K06.def_mk (x := "determinant_of_two") (st := K06.s_determinant_of_two) KX G ?a ?l ?c ?k
      (case a => k_is); (case l => k_is); (case c => k_is); (case k => k_is)
    obtain ⟨a_determinant_of_three, d_determinant_of_three, g_determinant_of_three, f_determinant_of_three⟩ : ∃ (f : Addr) (fd : FuncData), mg "determinant_of_three" = some (.ref f) ∧ L2.Fun _ "determinant_of_three" "determinant_of_three" K06.s_determinant_of_three f fd := by
      refine' K06.def_mk (x := "determinant_of_three") (st := K06.s_determinant_of_three) KX G ?a ?l ?c ?k
      (case a => k_is); (case l => k_is); (case c => k_is); (case k => k_is)
    obtain ⟨a_determinant_of_four, d_determinant_of_four, g_determinant_of_four, f_determinant_of_four⟩ : ∃ (f : Addr) (fd : FuncData), mg "determinant_of_four" = some (.ref f) ∧ L2.Fun _ "determinant_of_four" "determinant_of_four" K06.s_determinant_of_four f fd := by
      refine' K06.def_mk (x := "determinant_of_four") (st := K06.s_determinant_of_four) KX G ?a ?l ?c ?k
      (case a => k_is); (case l => k_is); (case c => k_is); (case k => k_is)
    obtain ⟨a_determinant_of, d_determinant_of, g_determinant_of, f_determinant_of⟩ : ∃ (f : Addr) (fd : FuncData), mg "determinant_of" = some (.ref f) ∧ L2.Fun _ "determinant_of" "determinant_of" K06.s_determinant_of f fd := by
      refine' K06.def_mk (x := "determinant_of") (st := K06.s_determinant_of) KX G ?a ?l ?c ?k
      (case a => k_is); (case l => k_is); (case c => k_is); (case k => k_is)
    obtain ⟨a_eliminated_determinant, d_eliminated_determinant, g_eliminated_determinant, f_eliminated_determinant⟩ : ∃ (f : Addr) (fd : FuncData), mg "eliminated_determinant" = some (.ref f) ∧ L2.Fun _ "eliminated_determinant" "eliminated_determinant" K06.s_eliminated_determinant f fd := by
      refine' K06.def_mk (x := "eliminated_determinant") (st := K06.s_eliminated_determinant) KX G ?a ?l ?c ?k
      (case a => k_is); (case l => k_is); (case c => k_is); (case k => k_is)
    obtain ⟨a_minor, d_minor, g_minor, f_minor⟩ : ∃ (f : Addr) (fd : FuncData), mg "minor" = some (.ref f) ∧ L2.Fun _ "minor" "minor" K06.s_minor f fd := by
      refine' K06.def_mk (x := "minor") (st := K06.s_minor) KX G ?a ?l ?c ?k
      (case a => k_is); (case l => k_is); (case c => k_is); (case k => k_is)
    obtain ⟨a_adjugate, d_adjugate, g_adjugate, f_adjugate⟩ : ∃ (f : Addr) (fd : FuncData), mg "adjugate" = some (.ref f) ∧ L2.Fun _ "adjugate" "adjugate" K06.s_adjugate f fd := by
      refine' K06.def_mk (x := "adjugate") (st := K06.s_adjugate) KX G ?a ?l ?c ?k
      (case a => k_is); (case l => k_is); (case c => k_is); (case k => k_is)
    obtain ⟨a_is_long_row, d_is_long_row, g_is_long_row, f_is_long_row⟩ : ∃ (f : Addr) (fd : FuncData), mg "is_long_row" = some (.ref f) ∧ L2.Fun _ "is_long_row" "is_long_row" K06.s_is_long_row f fd := by
      refine' K06.def_mk (x := "is_long_row") (st := K06.s_is_long_row) KX G ?a ?l ?c ?k
      (case a => k_is); (case l => k_is); (case c => k_is); (case k => k_is)
    obtain ⟨a_is_long_square, d_is_long_square, g_is_long_square, f_is_long_square⟩ : ∃ (f : Addr) (fd : FuncData), mg "is_long_square" = some (.ref f) ∧ L2.Fun _ "is_long_square" "is_long_square" K06.s_is_long_square f fd := by
      refine' K06.def_mk (x := "is_long_square") (st := K06.s_is_long_square) KX G ?a ?l ?c ?k
      (case a => k_is); (case l => k_is); (case c => k_is); (case k => k_is)
    obtain ⟨a_is_long_matrix, d_is_long_matrix, g_is_long_matrix, f_is_long_matrix⟩ : ∃ (f : Addr) (fd : FuncData), mg "is_long_matrix" = some (.ref f) ∧ L2.Fun _ "is_long_matrix" "is_long_matrix" K06.s_is_long_matrix f fd := by
      refine' K06.def_mk (x := "is_long_matrix") (st := K06.s_is_long_matrix) KX G ?a ?l ?c ?k
      (case a => k_is); (case l => k_is); (case c => k_is); (case k => k_is)
    obtain ⟨a_image, d_image, g_image, f_image⟩ : ∃ (f : Addr) (fd : FuncData), mg "image" = some (.ref f) ∧ L2.Fun _ "image" "image" K06.s_image f fd := by
      refine' K06.def_mk (x := "image") (st := K06.s_image) KX G ?a ?l ?c ?k
      (case a => k_is); (case l => k_is); (case c => k_is); (case k => k_is)
    obtain ⟨a_pairing_of, d_pairing_of, g_pairing_of, f_pairing_of⟩ : ∃ (f : Addr) (fd : FuncData), mg "pairing_of" = some (.ref f) ∧ L2.Fun _ "pairing_of" "pairing_of" K06.s_pairing_of f fd := by
      refine' K06.def_mk (x := "pairing_of") (st := K06.s_pairing_of) KX G ?a ?l ?c ?k
      (case a => k_is); (case l => k_is); (case c => k_is); (case k => k_is)
    obtain ⟨a_value_at, d_value_at, g_value_at, f_value_at⟩ : ∃ (f : Addr) (fd : FuncData), mg "value_at" = some (.ref f) ∧ L2.Fun _ "value_at" "value_at" K06.s_value_at f fd := by
      refine' K06.def_mk (x := "value_at") (st := K06.s_value_at) KX G ?a ?l ?c ?k
      (case a => k_is); (case l => k_is); (case c => k_is); (case k => k_is)
    obtain ⟨a_led_by, d_led_by, g_led_by, f_led_by⟩ : ∃ (f : Addr) (fd : FuncData), mg "led_by" = some (.ref f) ∧ L2.Fun _ "led_by" "led_by" K06.s_led_by f fd := by
      refine' K06.def_mk (x := "led_by") (st := K06.s_led_by) KX G ?a ?l ?c ?k
      (case a => k_is); (case l => k_is); (case c => k_is); (case k => k_is)
    obtain ⟨a_moved_by, d_moved_by, g_moved_by, f_moved_by⟩ : ∃ (f : Addr) (fd : FuncData), mg "moved_by" = some (.ref f) ∧ L2.Fun _ "moved_by" "moved_by" K06.s_moved_by f fd := by
      refine' K06.def_mk (x := "moved_by") (st := K06.s_moved_by) KX G ?a ?l ?c ?k
      (case a => k_is); (case l => k_is); (case c => k_is); (case k => k_is)
    obtain ⟨a_undone, d_undone, g_undone, f_undone⟩ : ∃ (f : Addr) (fd : FuncData), mg "undone" = some (.ref f) ∧ L2.Fun _ "undone" "undone" K06.s_undone f fd := by
      refine' K06.def_mk (x := "undone") (st := K06.s_undone) KX G ?a ?l ?c ?k
      (case a => k_is); (case l => k_is); (case c => k_is); (case k => k_is)
    obtain ⟨a_entries_of, d_entries_of, g_entries_of, f_entries_of⟩ : ∃ (f : Addr) (fd : FuncData), mg "entries_of" = some (.ref f) ∧ L2.Fun _ "entries_of" "entries_of" K06.s_entries_of f fd := by
      refine' K06.def_mk (x := "entries_of") (st := K06.s_entries_of) KX G ?a ?l ?c ?k
      (case a => k_is); (case l => k_is); (case c => k_is); (case k => k_is)
    obtain ⟨a_made_together, d_made_together, g_made_together, f_made_together⟩ : ∃ (f : Addr) (fd : FuncData), mg "made_together" = some (.ref f) ∧ L2.Fun _ "made_together" "made_together" K06.s_made_together f fd := by
      refine' K06.def_mk (x := "made_together") (st := K06.s_made_together) KX G ?a ?l ?c ?k
      (case a => k_is); (case l => k_is); (case c => k_is); (case k => k_is)
    obtain ⟨a_size_of, d_size_of, g_size_of, f_size_of⟩ : ∃ (f : Addr) (fd : FuncData), mg "size_of" = some (.ref f) ∧ L2.Fun _ "size_of" "size_of" K06.s_size_of f fd := by
      refine' K06.def_mk (x := "size_of") (st := K06.s_size_of) KX G ?a ?l ?c ?k
      (case a => k_is); (case l => k_is); (case c => k_is); (case k => k_is)
    obtain ⟨a_fits_row, d_fits_row, g_fits_row, f_fits_row⟩ : ∃ (f : Addr) (fd : FuncData), mg "fits_row" = some (.ref f) ∧ L2.Fun _ "fits_row" "fits_row" K06.s_fits_row f fd := by
      refine' K06.def_mk (x := "fits_row") (st := K06.s_fits_row) KX G ?a ?l ?c ?k
      (case a => k_is); (case l => k_is); (case c => k_is); (case k => k_is)
    obtain ⟨a_fits_square, d_fits_square, g_fits_square, f_fits_square⟩ : ∃ (f : Addr) (fd : FuncData), mg "fits_square" = some (.ref f) ∧ L2.Fun _ "fits_square" "fits_square" K06.s_fits_square f fd := by
      refine' K06.def_mk (x := "fits_square") (st := K06.s_fits_square) KX G ?a ?l ?c ?k
      (case a => k_is); (case l => k_is); (case c => k_is); (case k => k_is)
    obtain ⟨a_fits_table, d_fits_table, g_fits_table, f_fits_table⟩ : ∃ (f : Addr) (fd : FuncData), mg "fits_table" = some (.ref f) ∧ L2.Fun _ "fits_table" "fits_table" K06.s_fits_table f fd := by
      refine' K06.def_mk (x := "fits_table") (st := K06.s_fits_table) KX G ?a ?l ?c ?k
      (case a => k_is); (case l => k_is); (case c => k_is); (case k => k_is)
    obtain ⟨a_fits_matrix, d_fits_matrix, g_fits_matrix, f_fits_matrix⟩ : ∃ (f : Addr) (fd : FuncData), mg "fits_matrix" = some (.ref f) ∧ L2.Fun _ "fits_matrix" "fits_matrix" K06.s_fits_matrix f fd := by
      refine' K06.def_mk (x := "fits_matrix") (st := K06.s_fits_matrix) KX G ?a ?l ?c ?k
      (case a => k_is); (case l => k_is); (case c => k_is); (case k => k_is)
    obtain ⟨a_need_row, d_need_row, g_need_row, f_need_row⟩ : ∃ (f : Addr) (fd : FuncData), mg "need_row" = some (.ref f) ∧ L2.Fun _ "need_row" "need_row" K06.s_need_row f fd := by
      refine' K06.def_mk (x := "need_row") (st := K06.s_need_row) KX G ?a ?l ?c ?k
      (case a => k_is); (case l => k_is); (case c => k_is); (case k => k_is)
    obtain ⟨a_need_table, d_need_table, g_need_table, f_need_table⟩ : ∃ (f : Addr) (fd : FuncData), mg "need_table" = some (.ref f) ∧ L2.Fun _ "need_table" "need_table" K06.s_need_table f fd := by
      refine' K06.def_mk (x := "need_table") (st := K06.s_need_table) KX G ?a ?l ?c ?k
      (case a => k_is); (case l => k_is); (case c => k_is); (case k => k_is)
    obtain ⟨a_need_matrix, d_need_matrix, g_need_matrix, f_need_matrix⟩ : ∃ (f : Addr) (fd : FuncData), mg "need_matrix" = some (.ref f) ∧ L2.Fun _ "need_matrix" "need_matrix" K06.s_need_matrix f fd := by
      refine' K06.def_mk (x := "need_matrix") (st := K06.s_need_matrix) KX G ?a ?l ?c ?k
      (case a => k_is); (case l => k_is); (case c => k_is); (case k => k_is)
    obtain ⟨a_matrix_product, d_matrix_product, g_matrix_product, f_matrix_product⟩ : ∃ (f : Addr) (fd : FuncData), mg "matrix_product" = some (.ref f) ∧ L2.Fun _ "matrix_product" "matrix_product" K06.s_matrix_product f fd := by
      refine' K06.def_mk (x := "matrix_product") (st := K06.s_matrix_product) KX G ?a ?l ?c ?k
      (case a => k_is); (case l => k_is); (case c => k_is); (case k => k_is)
    obtain ⟨a_matrix_back, d_matrix_back, g_matrix_back, f_matrix_back⟩ : ∃ (f : Addr) (fd : FuncData), mg "matrix_back" = some (.ref f) ∧ L2.Fun _ "matrix_back" "matrix_back" K06.s_matrix_back f fd := by
      refine' K06.def_mk (x := "matrix_back") (st := K06.s_matrix_back) KX G ?a ?l ?c ?k
      (case a => k_is); (case l => k_is); (case c => k_is); (case k => k_is)
    obtain ⟨a_square, d_square, g_square, f_square⟩ : ∃ (f : Addr) (fd : FuncData), mg "square" = some (.ref f) ∧ L2.Fun _ "square" "square" K06.s_square f fd := by
      refine' K06.def_mk (x := "square") (st := K06.s_square) KX G ?a ?l ?c ?k
      (case a => k_is); (case l => k_is); (case c => k_is); (case k => k_is)
    obtain ⟨a_led_row, d_led_row, g_led_row, f_led_row⟩ : ∃ (f : Addr) (fd : FuncData), mg "led_row" = some (.ref f) ∧ L2.Fun _ "led_row" "led_row" K06.s_led_row f fd := by
      refine' K06.def_mk (x := "led_row") (st := K06.s_led_row) KX G ?a ?l ?c ?k
      (case a => k_is); (case l => k_is); (case c => k_is); (case k => k_is)
    obtain ⟨a_led_table, d_led_table, g_led_table, f_led_table⟩ : ∃ (f : Addr) (fd : FuncData), mg "led_table" = some (.ref f) ∧ L2.Fun _ "led_table" "led_table" K06.s_led_table f fd := by
      refine' K06.def_mk (x := "led_table") (st := K06.s_led_table) KX G ?a ?l ?c ?k
      (case a => k_is); (case l => k_is); (case c => k_is); (case k => k_is)
    obtain ⟨a_moved_table, d_moved_table, g_moved_table, f_moved_table⟩ : ∃ (f : Addr) (fd : FuncData), mg "moved_table" = some (.ref f) ∧ L2.Fun _ "moved_table" "moved_table" K06.s_moved_table f fd := by
      refine' K06.def_mk (x := "moved_table") (st := K06.s_moved_table) KX G ?a ?l ?c ?k
      (case a => k_is); (case l => k_is); (case c => k_is); (case k => k_is)
    obtain ⟨a_table_value, d_table_value, g_table_value, f_table_value⟩ : ∃ (f : Addr) (fd : FuncData), mg "table_value" = some (.ref f) ∧ L2.Fun _ "table_value" "table_value" K06.s_table_value f fd := by
      refine' K06.def_mk (x := "table_value") (st := K06.s_table_value) KX G ?a ?l ?c ?k
      (case a => k_is); (case l => k_is); (case c => k_is); (case k => k_is)
    obtain ⟨a_together, d_together, g_together, f_together⟩ : ∃ (f : Addr) (fd : FuncData), mg "together" = some (.ref f) ∧ L2.Fun _ "together" "together" K06.s_together f fd := by
      refine' K06.def_mk (x := "together") (st := K06.s_together) KX G ?a ?l ?c ?k
      (case a => k_is); (case l => k_is); (case c => k_is); (case k => k_is)
    obtain ⟨a__law_bag, d__law_bag, g__law_bag, f__law_bag⟩ : ∃ (f : Addr) (fd : FuncData), mg "_law_bag" = some (.ref f) ∧ L2.Fun _ "_law_bag" "_law_bag" K06.s__law_bag f fd := by
      refine' K06.def_mk (x := "_law_bag") (st := K06.s__law_bag) KX G ?a ?l ?c ?k
      (case a => k_is); (case l => k_is); (case c => k_is); (case k => k_is)
    obtain ⟨a__law_grab, d__law_grab, g__law_grab, f__law_grab⟩ : ∃ (f : Addr) (fd : FuncData), mg "_law_grab" = some (.ref f) ∧ L2.Fun _ "_law_grab" "_law_grab" K06.s__law_grab f fd := by
      refine' K06.def_mk (x := "_law_grab") (st := K06.s__law_grab) KX G ?a ?l ?c ?k
      (case a => k_is); (case l => k_is); (case c => k_is); (case k => k_is)
    obtain ⟨a__law_one_of, d__law_one_of, g__law_one_of, f__law_one_of⟩ : ∃ (f : Addr) (fd : FuncData), mg "_law_one_of" = some (.ref f) ∧ L2.Fun _ "_law_one_of" "_law_one_of" K06.s__law_one_of f fd := by
      refine' K06.def_mk (x := "_law_one_of") (st := K06.s__law_one_of) KX G ?a ?l ?c ?k
      (case a => k_is); (case l => k_is); (case c => k_is); (case k => k_is)
    obtain ⟨a__law_mixed, d__law_mixed, g__law_mixed, f__law_mixed⟩ : ∃ (f : Addr) (fd : FuncData), mg "_law_mixed" = some (.ref f) ∧ L2.Fun _ "_law_mixed" "_law_mixed" K06.s__law_mixed f fd := by
      refine' K06.def_mk (x := "_law_mixed") (st := K06.s__law_mixed) KX G ?a ?l ?c ?k
      (case a => k_is); (case l => k_is); (case c => k_is); (case k => k_is)
    obtain ⟨a__law_size, d__law_size, g__law_size, f__law_size⟩ : ∃ (f : Addr) (fd : FuncData), mg "_law_size" = some (.ref f) ∧ L2.Fun _ "_law_size" "_law_size" K06.s__law_size f fd := by
      refine' K06.def_mk (x := "_law_size") (st := K06.s__law_size) KX G ?a ?l ?c ?k
      (case a => k_is); (case l => k_is); (case c => k_is); (case k => k_is)
    obtain ⟨a__law_number, d__law_number, g__law_number, f__law_number⟩ : ∃ (f : Addr) (fd : FuncData), mg "_law_number" = some (.ref f) ∧ L2.Fun _ "_law_number" "_law_number" K06.s__law_number f fd := by
      refine' K06.def_mk (x := "_law_number") (st := K06.s__law_number) KX G ?a ?l ?c ?k
      (case a => k_is); (case l => k_is); (case c => k_is); (case k => k_is)
    obtain ⟨a__law_some_row, d__law_some_row, g__law_some_row, f__law_some_row⟩ : ∃ (f : Addr) (fd : FuncData), mg "_law_some_row" = some (.ref f) ∧ L2.Fun _ "_law_some_row" "_law_some_row" K06.s__law_some_row f fd := by
      refine' K06.def_mk (x := "_law_some_row") (st := K06.s__law_some_row) KX G ?a ?l ?c ?k
      (case a => k_is); (case l => k_is); (case c => k_is); (case k => k_is)
    obtain ⟨a__law_some_table, d__law_some_table, g__law_some_table, f__law_some_table⟩ : ∃ (f : Addr) (fd : FuncData), mg "_law_some_table" = some (.ref f) ∧ L2.Fun _ "_law_some_table" "_law_some_table" K06.s__law_some_table f fd := by
      refine' K06.def_mk (x := "_law_some_table") (st := K06.s__law_some_table) KX G ?a ?l ?c ?k
      (case a => k_is); (case l => k_is); (case c => k_is); (case k => k_is)
    obtain ⟨a__law_matrix, d__law_matrix, g__law_matrix, f__law_matrix⟩ : ∃ (f : Addr) (fd : FuncData), mg "_law_matrix" = some (.ref f) ∧ L2.Fun _ "_law_matrix" "_law_matrix" K06.s__law_matrix f fd := by
      refine' K06.def_mk (x := "_law_matrix") (st := K06.s__law_matrix) KX G ?a ?l ?c ?k
      (case a => k_is); (case l => k_is); (case c => k_is); (case k => k_is)
    obtain ⟨a__law_names, d__law_names, g__law_names, f__law_names⟩ : ∃ (f : Addr) (fd : FuncData), mg "_law_names" = some (.ref f) ∧ L2.Fun _ "_law_names" "_law_names" K06.s__law_names f fd := by
      refine' K06.def_mk (x := "_law_names") (st := K06.s__law_names) KX G ?a ?l ?c ?k
      (case a => k_is); (case l => k_is); (case c => k_is); (case k => k_is)
    obtain ⟨a__law_told, d__law_told, g__law_told, f__law_told⟩ : ∃ (f : Addr) (fd : FuncData), mg "_law_told" = some (.ref f) ∧ L2.Fun _ "_law_told" "_law_told" K06.s__law_told f fd := by
      refine' K06.def_mk (x := "_law_told") (st := K06.s__law_told) KX G ?a ?l ?c ?k
      (case a => k_is); (case l => k_is); (case c => k_is); (case k => k_is)
    obtain ⟨a__law_plain_rays, d__law_plain_rays, g__law_plain_rays, f__law_plain_rays⟩ : ∃ (f : Addr) (fd : FuncData), mg "_law_plain_rays" = some (.ref f) ∧ L2.Fun _ "_law_plain_rays" "_law_plain_rays" K06.s__law_plain_rays f fd := by
      refine' K06.def_mk (x := "_law_plain_rays") (st := K06.s__law_plain_rays) KX G ?a ?l ?c ?k
      (case a => k_is); (case l => k_is); (case c => k_is); (case k => k_is)
    obtain ⟨a__law_summed, d__law_summed, g__law_summed, f__law_summed⟩ : ∃ (f : Addr) (fd : FuncData), mg "_law_summed" = some (.ref f) ∧ L2.Fun _ "_law_summed" "_law_summed" K06.s__law_summed f fd := by
      refine' K06.def_mk (x := "_law_summed") (st := K06.s__law_summed) KX G ?a ?l ?c ?k
      (case a => k_is); (case l => k_is); (case c => k_is); (case k => k_is)
    obtain ⟨a__law_begun, d__law_begun, g__law_begun, f__law_begun⟩ : ∃ (f : Addr) (fd : FuncData), mg "_law_begun" = some (.ref f) ∧ L2.Fun _ "_law_begun" "_law_begun" K06.s__law_begun f fd := by
      refine' K06.def_mk (x := "_law_begun") (st := K06.s__law_begun) KX G ?a ?l ?c ?k
      (case a => k_is); (case l => k_is); (case c => k_is); (case k => k_is)
    obtain ⟨a__law_positive, d__law_positive, g__law_positive, f__law_positive⟩ : ∃ (f : Addr) (fd : FuncData), mg "_law_positive" = some (.ref f) ∧ L2.Fun _ "_law_positive" "_law_positive" K06.s__law_positive f fd := by
      refine' K06.def_mk (x := "_law_positive") (st := K06.s__law_positive) KX G ?a ?l ?c ?k
      (case a => k_is); (case l => k_is); (case c => k_is); (case k => k_is)
    obtain ⟨a__law_wide, d__law_wide, g__law_wide, f__law_wide⟩ : ∃ (f : Addr) (fd : FuncData), mg "_law_wide" = some (.ref f) ∧ L2.Fun _ "_law_wide" "_law_wide" K06.s__law_wide f fd := by
      refine' K06.def_mk (x := "_law_wide") (st := K06.s__law_wide) KX G ?a ?l ?c ?k
      (case a => k_is); (case l => k_is); (case c => k_is); (case k => k_is)
    obtain ⟨a__law_pairing, d__law_pairing, g__law_pairing, f__law_pairing⟩ : ∃ (f : Addr) (fd : FuncData), mg "_law_pairing" = some (.ref f) ∧ L2.Fun _ "_law_pairing" "_law_pairing" K06.s__law_pairing f fd := by
      refine' K06.def_mk (x := "_law_pairing") (st := K06.s__law_pairing) KX G ?a ?l ?c ?k
      (case a => k_is); (case l => k_is); (case c => k_is); (case k => k_is)
    obtain ⟨a__law_value, d__law_value, g__law_value, f__law_value⟩ : ∃ (f : Addr) (fd : FuncData), mg "_law_value" = some (.ref f) ∧ L2.Fun _ "_law_value" "_law_value" K06.s__law_value f fd := by
      refine' K06.def_mk (x := "_law_value") (st := K06.s__law_value) KX G ?a ?l ?c ?k
      (case a => k_is); (case l => k_is); (case c => k_is); (case k => k_is)
    obtain ⟨a__law_turned, d__law_turned, g__law_turned, f__law_turned⟩ : ∃ (f : Addr) (fd : FuncData), mg "_law_turned" = some (.ref f) ∧ L2.Fun _ "_law_turned" "_law_turned" K06.s__law_turned f fd := by
      refine' K06.def_mk (x := "_law_turned") (st := K06.s__law_turned) KX G ?a ?l ?c ?k
      (case a => k_is); (case l => k_is); (case c => k_is); (case k => k_is)
    obtain ⟨a__law_row_led, d__law_row_led, g__law_row_led, f__law_row_led⟩ : ∃ (f : Addr) (fd : FuncData), mg "_law_row_led" = some (.ref f) ∧ L2.Fun _ "_law_row_led" "_law_row_led" K06.s__law_row_led f fd := by
      refine' K06.def_mk (x := "_law_row_led") (st := K06.s__law_row_led) KX G ?a ?l ?c ?k
      (case a => k_is); (case l => k_is); (case c => k_is); (case k => k_is)
    obtain ⟨a__law_product, d__law_product, g__law_product, f__law_product⟩ : ∃ (f : Addr) (fd : FuncData), mg "_law_product" = some (.ref f) ∧ L2.Fun _ "_law_product" "_law_product" K06.s__law_product f fd := by
      refine' K06.def_mk (x := "_law_product") (st := K06.s__law_product) KX G ?a ?l ?c ?k
      (case a => k_is); (case l => k_is); (case c => k_is); (case k => k_is)
    obtain ⟨a__law_led, d__law_led, g__law_led, f__law_led⟩ : ∃ (f : Addr) (fd : FuncData), mg "_law_led" = some (.ref f) ∧ L2.Fun _ "_law_led" "_law_led" K06.s__law_led f fd := by
      refine' K06.def_mk (x := "_law_led") (st := K06.s__law_led) KX G ?a ?l ?c ?k
      (case a => k_is); (case l => k_is); (case c => k_is); (case k => k_is)
    obtain ⟨a__law_moved, d__law_moved, g__law_moved, f__law_moved⟩ : ∃ (f : Addr) (fd : FuncData), mg "_law_moved" = some (.ref f) ∧ L2.Fun _ "_law_moved" "_law_moved" K06.s__law_moved f fd := by
      refine' K06.def_mk (x := "_law_moved") (st := K06.s__law_moved) KX G ?a ?l ?c ?k
      (case a => k_is); (case l => k_is); (case c => k_is); (case k => k_is)
    obtain ⟨a__law_determinant, d__law_determinant, g__law_determinant, f__law_determinant⟩ : ∃ (f : Addr) (fd : FuncData), mg "_law_determinant" = some (.ref f) ∧ L2.Fun _ "_law_determinant" "_law_determinant" K06.s__law_determinant f fd := by
      refine' K06.def_mk (x := "_law_determinant") (st := K06.s__law_determinant) KX G ?a ?l ?c ?k
      (case a => k_is); (case l => k_is); (case c => k_is); (case k => k_is)
    obtain ⟨a__law_adjoint, d__law_adjoint, g__law_adjoint, f__law_adjoint⟩ : ∃ (f : Addr) (fd : FuncData), mg "_law_adjoint" = some (.ref f) ∧ L2.Fun _ "_law_adjoint" "_law_adjoint" K06.s__law_adjoint f fd := by
      refine' K06.def_mk (x := "_law_adjoint") (st := K06.s__law_adjoint) KX G ?a ?l ?c ?k
      (case a => k_is); (case l => k_is); (case c => k_is); (case k => k_is)
    obtain ⟨a__law_together, d__law_together, g__law_together, f__law_together⟩ : ∃ (f : Addr) (fd : FuncData), mg "_law_together" = some (.ref f) ∧ L2.Fun _ "_law_together" "_law_together" K06.s__law_together f fd := by
      refine' K06.def_mk (x := "_law_together") (st := K06.s__law_together) KX G ?a ?l ?c ?k
      (case a => k_is); (case l => k_is); (case c => k_is); (case k => k_is)
    obtain ⟨a__law_plus, d__law_plus, g__law_plus, f__law_plus⟩ : ∃ (f : Addr) (fd : FuncData), mg "_law_plus" = some (.ref f) ∧ L2.Fun _ "_law_plus" "_law_plus" K06.s__law_plus f fd := by
      refine' K06.def_mk (x := "_law_plus") (st := K06.s__law_plus) KX G ?a ?l ?c ?k
      (case a => k_is); (case l => k_is); (case c => k_is); (case k => k_is)
    obtain ⟨a__law_is_positive, d__law_is_positive, g__law_is_positive, f__law_is_positive⟩ : ∃ (f : Addr) (fd : FuncData), mg "_law_is_positive" = some (.ref f) ∧ L2.Fun _ "_law_is_positive" "_law_is_positive" K06.s__law_is_positive f fd := by
      refine' K06.def_mk (x := "_law_is_positive") (st := K06.s__law_is_positive) KX G ?a ?l ?c ?k
      (case a => k_is); (case l => k_is); (case c => k_is); (case k => k_is)
    obtain ⟨a__law_led_right, d__law_led_right, g__law_led_right, f__law_led_right⟩ : ∃ (f : Addr) (fd : FuncData), mg "_law_led_right" = some (.ref f) ∧ L2.Fun _ "_law_led_right" "_law_led_right" K06.s__law_led_right f fd := by
      refine' K06.def_mk (x := "_law_led_right") (st := K06.s__law_led_right) KX G ?a ?l ?c ?k
      (case a => k_is); (case l => k_is); (case c => k_is); (case k => k_is)
    obtain ⟨a__law_moved_right, d__law_moved_right, g__law_moved_right, f__law_moved_right⟩ : ∃ (f : Addr) (fd : FuncData), mg "_law_moved_right" = some (.ref f) ∧ L2.Fun _ "_law_moved_right" "_law_moved_right" K06.s__law_moved_right f fd := by
      refine' K06.def_mk (x := "_law_moved_right") (st := K06.s__law_moved_right) KX G ?a ?l ?c ?k
      (case a => k_is); (case l => k_is); (case c => k_is); (case k => k_is)
    obtain ⟨a__law_both_right, d__law_both_right, g__law_both_right, f__law_both_right⟩ : ∃ (f : Addr) (fd : FuncData), mg "_law_both_right" = some (.ref f) ∧ L2.Fun _ "_law_both_right" "_law_both_right" K06.s__law_both_right f fd := by
      refine' K06.def_mk (x := "_law_both_right") (st := K06.s__law_both_right) KX G ?a ?l ?c ?k
      (case a => k_is); (case l => k_is); (case c => k_is); (case k => k_is)
    obtain ⟨a_law, d_law, g_law, f_law⟩ : ∃ (f : Addr) (fd : FuncData), mg "law" = some (.ref f) ∧ L2.Fun _ "law" "law" K06.s_law f fd := by
      refine' K06.def_mk (x := "law") (st := K06.s_law) KX G ?a ?l ?c ?k
      (case a => k_is); (case l => k_is); (case c => k_is); (case k => k_is)
    obtain ⟨u_TOO_LONG, c_TOO_LONG, v_TOO_LONG⟩ : ∃ u : Value, mg "TOO_LONG" = some u ∧ L2.RelV (.int (10 ^ 60)) u := by
      refine' K06.con_mk (x := "TOO_LONG") KX G ?a ?r
      (case a => k_is); (case r => exact ⟨_, rfl⟩)
    obtain ⟨t_SIZES, c_SIZES, v_SIZES⟩ : ∃ t : Addr, mg "SIZES" = some (.ref t) ∧ ∀ H, L2.SqT _ H t [.int 2, .int 3, .int 4] := by
      refine' K06.tup_mk (x := "SIZES") KX G ?a ?l ?r
      (case a => k_is); (case l => k_is); (case r => exact ⟨rfl, rfl, by decide, by (repeat (first | exact .nil | refine .cons ⟨_, rfl⟩ ?_))⟩)
    have n_abs : mg "abs" = none := PySem.W.mg_none_of KX G (by k_is)
    have n_all : mg "all" = none := PySem.W.mg_none_of KX G (by k_is)
    have n_bool : mg "bool" = none := PySem.W.mg_none_of KX G (by k_is)
    have n_enumerate : mg "enumerate" = none := PySem.W.mg_none_of KX G (by k_is)
    have n_int : mg "int" = none := PySem.W.mg_none_of KX G (by k_is)
    have n_isinstance : mg "isinstance" = none := PySem.W.mg_none_of KX G (by k_is)
    have n_len : mg "len" = none := PySem.W.mg_none_of KX G (by k_is)
    have n_list : mg "list" = none := PySem.W.mg_none_of KX G (by k_is)
    have n_max : mg "max" = none := PySem.W.mg_none_of KX G (by k_is)
    have n_min : mg "min" = none := PySem.W.mg_none_of KX G (by k_is)
    have n_range : mg "range" = none := PySem.W.mg_none_of KX G (by k_is)
    have n_str : mg "str" = none := PySem.W.mg_none_of KX G (by k_is)
    have n_sum : mg "sum" = none := PySem.W.mg_none_of KX G (by k_is)
    have n_tuple : mg "tuple" = none := PySem.W.mg_none_of KX G (by k_is)
    have n_zip : mg "zip" = none := PySem.W.mg_none_of KX G (by k_is)
    have T : K06.Txt _ mg ⟨a_is_whole, d_is_whole, a_is_integer, d_is_integer, a_are_integers, d_are_integers, a_dot, d_dot, a_turned, d_turned, a_multiplied, d_multiplied, a_first_other_than_0, d_first_other_than_0, a_without, d_without, a_cleared_line, d_cleared_line, a_determinant_of_two, d_determinant_of_two, a_determinant_of_three, d_determinant_of_three, a_determinant_of_four, d_determinant_of_four, a_determinant_of, d_determinant_of, a_eliminated_determinant, d_eliminated_determinant, a_minor, d_minor, a_adjugate, d_adjugate, a_is_long_row, d_is_long_row, a_is_long_square, d_is_long_square, a_is_long_matrix, d_is_long_matrix, a_image, d_image, a_pairing_of, d_pairing_of, a_value_at, d_value_at, a_led_by, d_led_by, a_moved_by, d_moved_by, a_undone, d_undone, a_entries_of, d_entries_of, a_made_together, d_made_together, a_size_of, d_size_of, a_fits_row, d_fits_row, a_fits_square, d_fits_square, a_fits_table, d_fits_table, a_fits_matrix, d_fits_matrix, a_need_row, d_need_row, a_need_table, d_need_table, a_need_matrix, d_need_matrix, a_matrix_product, d_matrix_product, a_matrix_back, d_matrix_back, a_square, d_square, a_led_row, d_led_row, a_led_table, d_led_table, a_moved_table, d_moved_table, a_table_value, d_table_value, a_together, d_together, a__law_bag, d__law_bag, a__law_grab, d__law_grab, a__law_one_of, d__law_one_of, a__law_mixed, d__law_mixed, a__law_size, d__law_size, a__law_number, d__law_number, a__law_some_row, d__law_some_row, a__law_some_table, d__law_some_table, a__law_matrix, d__law_matrix, a__law_names, d__law_names, a__law_told, d__law_told, a__law_plain_rays, d__law_plain_rays, a__law_summed, d__law_summed, a__law_begun, d__law_begun, a__law_positive, d__law_positive, a__law_wide, d__law_wide, a__law_pairing, d__law_pairing, a__law_value, d__law_value, a__law_turned, d__law_turned, a__law_row_led, d__law_row_led, a__law_product, d__law_product, a__law_led, d__law_led, a__law_moved, d__law_moved, a__law_determinant, d__law_determinant, a__law_adjoint, d__law_adjoint, a__law_together, d__law_together, a__law_plus, d__law_plus, a__law_is_positive, d__law_is_positive, a__law_led_right, d__law_led_right, a__law_moved_right, d__law_moved_right, a__law_both_right, d__law_both_right, a_law, d_law, u_TOO_LONG, t_SIZES⟩ := ⟨g_is_whole, f_is_whole, g_is_integer, f_is_integer, g_are_integers, f_are_integers, g_dot, f_dot, g_turned, f_turned, g_multiplied, f_multiplied, g_first_other_than_0, f_first_other_than_0, g_without, f_without, g_cleared_line, f_cleared_line, g_determinant_of_two, f_determinant_of_two, g_determinant_of_three, f_determinant_of_three, g_determinant_of_four, f_determinant_of_four, g_determinant_of, f_determinant_of, g_eliminated_determinant, f_eliminated_determinant, g_minor, f_minor, g_adjugate, f_adjugate, g_is_long_row, f_is_long_row, g_is_long_square, f_is_long_square, g_is_long_matrix, f_is_long_matrix, g_image, f_image, g_pairing_of, f_pairing_of, g_value_at, f_value_at, g_led_by, f_led_by, g_moved_by, f_moved_by, g_undone, f_undone, g_entries_of, f_entries_of, g_made_together, f_made_together, g_size_of, f_size_of, g_fits_row, f_fits_row, g_fits_square, f_fits_square, g_fits_table, f_fits_table, g_fits_matrix, f_fits_matrix, g_need_row, f_need_row, g_need_table, f_need_table, g_need_matrix, f_need_matrix, g_matrix_product, f_matrix_product, g_matrix_back, f_matrix_back, g_square, f_square, g_led_row, f_led_row, g_led_table, f_led_table, g_moved_table, f_moved_table, g_table_value, f_table_value, g_together, f_together, g__law_bag, f__law_bag, g__law_grab, f__law_grab, g__law_one_of, f__law_one_of, g__law_mixed, f__law_mixed, g__law_size, f__law_size, g__law_number, f__law_number, g__law_some_row, f__law_some_row, g__law_some_table, f__law_some_table, g__law_matrix, f__law_matrix, g__law_names, f__law_names, g__law_told, f__law_told, g__law_plain_rays, f__law_plain_rays, g__law_summed, f__law_summed, g__law_begun, f__law_begun, g__law_positive, f__law_positive, g__law_wide, f__law_wide, g__law_pairing, f__law_pairing, g__law_value, f__law_value, g__law_turned, f__law_turned, g__law_row_led, f__law_row_led, g__law_product, f__law_product, g__law_led, f__law_led, g__law_moved, f__law_moved, g__law_determinant, f__law_determinant, g__law_adjoint, f__law_adjoint, g__law_together, f__law_together, g__law_plus, f__law_plus, g__law_is_positive, f__law_is_positive, g__law_led_right, f__law_led_right, g__law_moved_right, f__law_moved_right, g__law_both_right, f__law_both_right, g_law, f_law, n_abs, n_all, n_bool, n_enumerate, n_int, n_isinstance, n_len, n_list, n_max, n_min, n_range, n_str, n_sum, n_tuple, n_zip, c_TOO_LONG, v_TOO_LONG, c_SIZES, v_SIZES⟩
    obtain rfl : fa = a_law := by
      have e := hmg.symm.trans g_law
      cases e
      rfl
    exact ⟨d_law, K06.bind_law f_law, fun base _ _ => K06.ok_law T⟩
